import PyProof.Rows.All
import Wide.All
import OpenK.AllK
import Wide.FinOn
import Lean
import PyProof.EqAt
import PyProof.EqKinds
import PyProof.TupleCall
import PySem.Challenge.RW_askorder_k54_lines_found
set_option Elab.async false
set_option linter.all false
set_option maxRecDepth 100000
/-! THE HAND LAYER,for ints,z4s,texts,own classes,LISTS and tuples (index,slices,in,append,pop ..),calls,loops. Paste it whole ahead of your own text; what your proof does not reach may be deleted. -/
noncomputable abbrev PySem.W.Fast.tw12884396802674463429:=PySem.Challenge.pw_askorder_k54_lines_found
theorem PySem.W.Fast.te12884396802674463429 : PySem.Challenge.pw_askorder_k54_lines_found=PySem.W.Fast.tw12884396802674463429:=rfl
namespace L2
open PySem PySem.Spec PyProof.Rows

/-- a key: an int or a str -/
abbrev Key:=Sum Int Str
def y1b : Key->Value->Bool
  | .inl k,v=>Value.isInt k v
  | .inr x,v=>Value.isStrOf x v
def keyH (w : World) : Key->Int
  | .inl k=>hashInt k
  | .inr x=>hashStr w x
theorem z0Q : ∀ {k : Key} {v : Value},y1b k v=true->(∃ i t,k=Sum.inl i∧v=Value.int i t)∨(∃ x t,k=Sum.inr x∧v=Value.str x t)
  | .inl i,v,h=>by
    obtain ⟨t,e⟩:=Value.isInt_shape (k:=i) (v:=v) h
    exact .inl ⟨i,t,rfl,e⟩
  | .inr x,v,h=>by
    obtain ⟨t,e⟩:=Value.isStrOf_shape (x:=x) (v:=v) h
    exact .inr ⟨x,t,rfl,e⟩
theorem y1N (i : Int) (t : Tok) : y1b (.inl i) (.int i t)=true:=by simp [y1b,Value.isInt]
theorem y2b (x : Str) (t : Tok) : y1b (.inr x) (.str x t)=true:=by simp [y1b,Value.isStrOf]
theorem key_ll (a b : Int) : decide ((Sum.inl a : Key)=Sum.inl b)=(a == b):=by
  by_cases e : a=b
  · subst e; simp
  · have h : ¬ (Sum.inl a : Key)=Sum.inl b:=fun q=>e (Sum.inl.inj q)
    rw [decide_eq_false h]
    exact (beq_eq_false_iff_ne.mpr e).symm
theorem key_rr (a b : Str) : decide ((Sum.inr a : Key)=Sum.inr b)=decide (a=b):=by
  by_cases e : a=b
  · subst e; simp
  · have h : ¬ (Sum.inr a : Key)=Sum.inr b:=fun q=>e (Sum.inr.inj q)
    rw [decide_eq_false h,decide_eq_false e]
theorem key_lr (a : Int) (b : Str) : decide ((Sum.inl a : Key)=Sum.inr b)=false:=decide_eq_false (fun q=>nomatch q)
theorem key_rl (a : Str) (b : Int) : decide ((Sum.inr a : Key)=Sum.inl b)=false:=decide_eq_false (fun q=>nomatch q)

def z1u (prog : Program) (w : World) : PySem.KeyKind prog w Key where
  is:=y1b
  hash:=keyH w
  inj:=fun v a b ha hb=>by
    rcases z0Q ha with ⟨i,t,rfl,rfl⟩ | ⟨x,t,rfl,rfl⟩
    · rcases z0Q hb with ⟨j,u,rfl,e⟩ | ⟨y,u,rfl,e⟩
      · injection e with e1 _; rw [e1]
      · exact nomatch e
    · rcases z0Q hb with ⟨j,u,rfl,e⟩ | ⟨y,u,rfl,e⟩
      · exact nomatch e
      · injection e with e1 _; rw [e1]
  byValue:=fun k v h=>by
    rcases z0Q h with ⟨i,t,rfl,rfl⟩ | ⟨x,t,rfl,rfl⟩ <;> rfl
  pyHash:=fun hv h=>by
    rcases z0Q hv with ⟨i,t,rfl,rfl⟩ | ⟨x,t,rfl,rfl⟩
    · exact wpAny_pyHash_int h
    · exact wpAny_pyHash_str h
  eqBool:=fun hu hv h=>by
    rcases z0Q hu with ⟨i,t,rfl,rfl⟩ | ⟨x,t,rfl,rfl⟩
    · rcases z0Q hv with ⟨j,u,rfl,rfl⟩ | ⟨y,u,rfl,rfl⟩
      · rw [key_ll] at h; exact wpAny_eqBool_int h
      · rw [key_lr] at h; exact SeqAt.EqAt.int_str i t y u _ _ _ _ h
    · rcases z0Q hv with ⟨j,u,rfl,rfl⟩ | ⟨y,u,rfl,rfl⟩
      · rw [key_rl] at h; exact SeqAt.EqAt.str_int x t j u _ _ _ _ h
      · rw [key_rr] at h; exact wpAny_eqBool_str h
  «strs»:=fun k x t v h=>by
    rcases z0Q h with ⟨i,u,rfl,e⟩ | ⟨y,u,rfl,e⟩
    · exact nomatch e
    · injection e with e1 _
      subst e1
      cases v <;> rfl

theorem z9f (prog : Program) (w : World) (i : Int) (t : Tok) : (z1u prog w).is (.inl i) (.int i t)=true:=y1N i t
theorem z8P (prog : Program) (w : World) (x : Str) (t : Tok) : (z1u prog w).is (.inr x) (.str x t)=true:=y2b x t
end L2

namespace L2
open PySem PySem.Spec PyProof.Rows

/-- a value,without the heap -/
inductive V where
  | non | bl (b : Bool) | int (i : Int) | str (x : Str) | byt (b : Array UInt8) | flt (b : UInt64) | ref (a : Addr) | ty (n : String)
  deriving DecidableEq

def RelV : V->Value->Prop
  | .non,u=>u=Value.none
  | .bl b,u=>u=Value.bool b
  | .int i,u=>∃ t,u=Value.int i t
  | .str x,u=>∃ t,u=Value.str x t
  | .byt b,u=>∃ t,u=Value.bytes b t
  | .flt b,u=>∃ t,u=Value.float b t
  | .ref a,u=>u=Value.ref a
  | .ty n,u=>u=Value.type n

abbrev Vals : List V->List Value->Prop:=Paired RelV
theorem Vals.length {xs : List V} {us : List Value} (r : Vals xs us) : xs.length=us.length:=Paired.length r
theorem Vals.get : ∀ {xs : List V} {us : List Value} {i : Nat} {x : V},Vals xs us->xs[i]? = some x->∃ u,us[i]? = some u∧RelV x u
  | _,_,_,_,.nil,e=>by simp at e
  | _,_,0,_,.cons r _,e=>by simp at e; subst e; exact ⟨_,rfl,r⟩
  | _,_,i + 1,x,.cons _ t,e=>by
    obtain ⟨u,h1,h2⟩:=Vals.get (i:=i) (x:=x) t (by simpa using e)
    exact ⟨u,by simpa using h1,h2⟩
theorem Vals.set {x : V} {u : Value} (r : RelV x u) : ∀ {xs : List V} {us : List Value} (i : Nat),Vals xs us->Vals (xs.set i x) (us.set i u)
  | _,_,_,.nil=>.nil
  | _,_,0,.cons _ t=>.cons r t
  | _,_,i + 1,.cons q t=>.cons q (Vals.set r i t)
theorem Vals.append : ∀ {xs ys : List V} {us ws : List Value},Vals xs us->Vals ys ws->Vals (xs ++ ys) (us ++ ws)
  | _,_,_,_,.nil,s=>s
  | _,_,_,_,.cons r t,s=>.cons r (Vals.append t s)
theorem Vals.take : ∀ {xs : List V} {us : List Value} (n : Nat),Vals xs us->Vals (xs.take n) (us.take n)
  | _,_,0,_=>.nil
  | _,_,_ + 1,.nil=>.nil
  | _,_,n + 1,.cons r t=>.cons r (Vals.take n t)
theorem Vals.drop : ∀ {xs : List V} {us : List Value} (n : Nat),Vals xs us->Vals (xs.drop n) (us.drop n)
  | _,_,0,r=>r
  | _,_,_ + 1,.nil=>.nil
  | _,_,n + 1,.cons _ t=>Vals.drop n t
theorem Vals.none_of : ∀ {xs : List V} {us : List Value} {i : Nat},Vals xs us->xs[i]? = none->us[i]? = none:=fun {xs us i} r e=>by
  have h1:=r.length
  have h2 : xs.length≤i:=List.getElem?_eq_none_iff.mp e
  exact List.getElem?_eq_none_iff.mpr (by omega)

def RelO : Option V->Option Value->Prop
  | some v,some u=>RelV v u
  | none,none=>True
  | _,_=>False
def KV {κ : Type} : List (κ × V)->List (κ × Value)->Prop:=Paired fun (p : κ × V) (q : κ × Value)=>p.1=q.1∧RelV p.2 q.2

/-- a key of a dict (00_mix): an int or a text -/
def kV : Key->V
  | .inl i=>.int i
  | .inr x=>.str x

/-- what stands at a tracked address -/
inductive HO where
  /-- a list -/
  | lst (xs : List V)
  /-- a tuple (never changes) -/
  | tup (xs : List V)
  /-- a dict whose keys are ints and texts; one whose keys are tuples of ints and texts (the empty one is both) -/
  | dK (kvs : List (Key × V)) | dT (kvs : List (List Key × V))
  /-- a set of ints: its members,its size -/
  | set (S : Int->Bool) (n : Nat)
  /-- an instance of the class at C,its dict at dx,its attributes -/
  | ins (C dx : Addr) (fs : List (Str × V))
  /-- the dict of the instance at x -/
  | own (x : Addr)
  /-- the dict of an exception -/
  | xd (fs : List (Str × V))
  /-- a bound method,f of x -/
  | met (f x : Addr)
  /-- a range object lo,lo + 1,.. below hi -/
  | rng (lo hi : Int)
  /-- a thing that is known to the object (the script; a dict while a loop walks it): read,never written while it is so -/
  | frz (o : Obj) (u : HO)
  /-- a code object's table -/
  | tbl (ps : Array Value)
  /-- any other thing,by what is true of its one object (a def of one's own: SetO a S n:=HO.ext fun h=>..) -/
  | ext (φ : Heap->Prop)

abbrev Hp:=Addr->Option HO
def upd (H : Hp) (a : Addr) (o : HO) : Hp:=fun b=>if b=a then some o else H b
theorem z0m {H : Hp} {a : Addr} {o : HO} : upd H a o a=some o:=by unfold upd; rw [if_pos rfl]
theorem z0s {H : Hp} {a b : Addr} {o : HO} (h : b≠a) : upd H a o b=H b:=by unfold upd; rw [if_neg h]
/-- two objects of different content stand apart -/
theorem ne_of {H : Hp} {a b : Addr} {o u : HO} (h : H a=some o) (h' : H b=some u) (d : o≠u) : a≠b:=by
  intro e; subst e; rw [h] at h'; exact d (Option.some.inj h')
theorem z1f {H : Hp} {a b : Addr} {o : HO} (h : H a=some o) (h' : H b=none) : a≠b:=by
  intro e; subst e; rw [h] at h'; cases h'

section
variable (P : Program) (w : World)
/-- a tuple's object,without a dict of its own -/
def TupN (h : Heap) (a : Addr) (items : Array Value) : Prop:=∃ o,h.get? a=some o∧(o.cls = .type "tuple" ∧ o.dict=none)∧∃ n,o.data = .seq items n
theorem TupN.is {h : Heap} {a : Addr} {items : Array Value} (x : TupN h a items) : IsTup h a items:=let ⟨o,e,c,n⟩:=x; ⟨o,e,c.1,n⟩
theorem TupN.lt {h : Heap} {a : Addr} {items : Array Value} (x : TupN h a items) : a < h.objs.size:=x.is.lt
theorem TupN.new (h : Heap) (items : Array Value) : TupN (h.push { cls:=.type "tuple",data:=.seq items }) h.objs.size items:=⟨_,Heap.get?_push_size _ rfl,⟨rfl,rfl⟩,_,rfl⟩

def ObjOk (H : Hp) (h : Heap) (a : Addr) : HO->Prop
  | .lst xs=>xs.length≤sizeLine∧∃ (its : List Value) (n : Nat),Vals xs its∧h.get? a=some { cls:=.type "list",data:=.seq its.toArray n }
  | .tup xs=>xs.length≤sizeLine∧∃ its : List Value,Vals xs its∧TupN h a its.toArray
  | .dK kvs=>kvs.length≤sizeLine∧(a == sysModules)=false∧∃ vs,KV kvs vs∧h.DictOf (z1u P w) a vs
  | .dT kvs=>kvs.length≤sizeLine∧(a == sysModules)=false∧∃ xs : List (List Key × Addr × Value),
      Paired (fun (p : List Key × V) (q : List Key × Addr × Value)=>p.1=q.1∧H q.2.1=some (.tup (p.1.map kV))∧RelV p.2 q.2.2) kvs xs ∧
      ∃ o es ep,h.get? a=some o∧o.ExactDict∧o.data = .dict es ep∧es.toList=xs.map (entryOfKey (tupleKind (z1u P w)))∧(xs.map (·.1)).Nodup
  | .set S n=>h.SetOf (intKind P w) a S n
  | .ins C dx fs=>H dx=some (.own a)∧fs.length≤1000∧dx≠a∧h.get? a=some (PySem.W.instObj C dx) ∧
      ∃ mA,h.Ns1 dx mA∧(∀ f,RelO (fs.lookup f) (mA f))∧PySem.Within mA (fs.map (·.1))
  | .own _=>∃ o,h.get? a=some o
  | .xd fs=>∃ mA,h.Ns1 a mA∧∀ f,RelO (fs.lookup f) (mA f)
  | .rng lo hi=>∃ t u v,h.get? a=some { cls:=.type "range",data:=.fields #[.int lo t,.int hi u,.int 1 v] }
  | .frz o u=>h.get? a=some o∧ObjOk H h a u
  | .tbl ps=>h.get? a=some { cls:=.none,data:=.fields ps }
  | .met f x=>h.get? a=some (PySem.W.methodObj (.ref f) (.ref x))
  | .ext φ=>φ h∧(∃ o,h.get? a=some o)∧∀ h1 h2 : Heap,φ h1->(∀ o,h1.get? a=some o->h2.get? a=some o)->φ h2
/-- the abstract heap is held -/
def HOk (H : Hp) (h : Heap) : Prop:=∀ a o,H a=some o->ObjOk P w H h a o
end

section
variable {P : Program} {w : World} {H H' : Hp} {h h' : Heap} {a : Addr} {o : HO}
theorem ObjOk.lt (x : ObjOk P w H h a o) : a < h.objs.size:=by
  cases o with
  | lst xs=>obtain ⟨_,_,_,_,e⟩:=x; exact Heap.lt_size e
  | tup xs=>obtain ⟨_,_,_,p⟩:=x; exact p.lt
  | dK kvs=>obtain ⟨_,_,_,_,o,_,_,e,_⟩:=x; exact Heap.lt_size e
  | dT kvs=>obtain ⟨_,_,_,_,o,_,_,e,_⟩:=x; exact Heap.lt_size e
  | set S n=>obtain ⟨o,_,_,_,e,_⟩:=x; exact Heap.lt_size e
  | ins C dx fs=>obtain ⟨_,_,_,e,_⟩:=x; exact Heap.lt_size e
  | own y=>obtain ⟨_,e⟩:=x; exact Heap.lt_size e
  | xd fs=>obtain ⟨_,⟨_,_,_,e,_⟩,_⟩:=x; exact Heap.lt_size e
  | rng lo hi=>obtain ⟨_,_,_,e⟩:=x; exact Heap.lt_size e
  | frz ob u=>obtain ⟨e,_⟩:=x; exact Heap.lt_size e
  | tbl ps=>exact Heap.lt_size (show h.get? a=some _ from x)
  | met f y=>exact Heap.lt_size (show h.get? a=some _ from x)
  | ext φ=>obtain ⟨_,⟨_,e⟩,_⟩:=x; exact Heap.lt_size e
theorem Paired.mapP {α β : Type} {F G : α->β->Prop} : ∀ {l₁ : List α} {l₂ : List β},Paired F l₁ l₂->(∀ a b,F a b->G a b)->Paired G l₁ l₂
  | _,_,.nil,_=>.nil
  | _,_,.cons r t,f=>.cons (f _ _ r) (Paired.mapP t f)
/-- what an object's description leans on: its own object,its own dict,the tuples -/
theorem ObjOk.stay (x : ObjOk P w H h a o) (k : ∀ b u,(b=a∨H b=some (.own a))->h.get? b=some u->h'.get? b=some u)
    (ho : ∀ b,H b=some (.own a)->H' b=some (.own a)) (ht : ∀ b xs,H b=some (.tup xs)->H' b=some (.tup xs)) : ObjOk P w H' h' a o:=by
  induction o with
  | lst xs=>obtain ⟨z,its,n,r,e⟩:=x; exact ⟨z,its,n,r,k _ _ (.inl rfl) e⟩
  | tup xs=>obtain ⟨z,its,r,ob,e,c⟩:=x; exact ⟨z,its,r,ob,k _ _ (.inl rfl) e,c⟩
  | dK kvs=>obtain ⟨z,y,vs,r,ob,es,ep,e,c⟩:=x; exact ⟨z,y,vs,r,ob,es,ep,k _ _ (.inl rfl) e,c⟩
  | dT kvs=>
    obtain ⟨z,y,xs,r,ob,es,ep,e,c⟩:=x
    exact ⟨z,y,xs,Paired.mapP r fun p q z=>⟨z.1,ht _ _ z.2.1,z.2.2⟩,ob,es,ep,k _ _ (.inl rfl) e,c⟩
  | set S n=>obtain ⟨ob,es,ep,t,e,c⟩:=x; exact ⟨ob,es,ep,t,k _ _ (.inl rfl) e,c⟩
  | ins C dx fs=>
    obtain ⟨d,z,ne,e,mA,⟨od,es,ep,e2,c⟩,r⟩:=x
    exact ⟨ho _ d,z,ne,k _ _ (.inl rfl) e,mA,⟨od,es,ep,k _ _ (.inr d) e2,c⟩,r⟩
  | own y=>obtain ⟨ob,e⟩:=x; exact ⟨ob,k _ _ (.inl rfl) e⟩
  | xd fs=>obtain ⟨mA,⟨od,es,ep,e,c⟩,r⟩:=x; exact ⟨mA,⟨od,es,ep,k _ _ (.inl rfl) e,c⟩,r⟩
  | rng lo hi=>obtain ⟨t,u,v,e⟩:=x; exact ⟨t,u,v,k _ _ (.inl rfl) e⟩
  | frz ob u ih=>obtain ⟨e,q⟩:=x; exact ⟨k _ _ (.inl rfl) e,ih q⟩
  | tbl ps=>
    have e : h.get? a=some { cls:=.none,data:=.fields ps }:=x
    show h'.get? a=some { cls:=.none,data:=.fields ps }
    exact k a _ (.inl rfl) e
  | met f y=>
    have e : h.get? a=some (PySem.W.methodObj (.ref f) (.ref y)):=x
    show h'.get? a=some (PySem.W.methodObj (.ref f) (.ref y))
    exact k a _ (.inl rfl) e
  | ext φ=>obtain ⟨p,⟨o,e⟩,st⟩:=x; exact ⟨st _ _ p fun o q=>k _ _ (.inl rfl) q,⟨o,k _ _ (.inl rfl) e⟩,st⟩
theorem HOk.lt (x : HOk P w H h) (e : H a=some o) : a < h.objs.size:=(x a o e).lt
theorem HOk.fresh (x : HOk P w H h) (e : h.objs.size≤a) : H a=none:=by
  cases q : H a with
  | none=>rfl
  | some u=>exact absurd (Nat.lt_of_lt_of_le (x.lt q) e) (Nat.lt_irrefl _)
/-- every object of the heap is kept -/
theorem HOk.kept (x : HOk P w H h) (k : ∀ b u,h.get? b=some u->h'.get? b=some u) : HOk P w H h':=fun a o e=>
  (x a o e).stay (fun b u _ q=>k b u q) (fun _ q=>q) fun _ _ q=>q
/-- a new object is laid and tracked -/
theorem HOk.laid (x : HOk P w H h) (k : ∀ b u,h.get? b=some u->h'.get? b=some u) (hp : h.objs.size≤a) (new : ObjOk P w (upd H a o) h' a o) : HOk P w (upd H a o) h':=fun b u e=>by
  have hn:=x.fresh hp
  by_cases hb : b=a
  · subst hb; rw [z0m] at e; cases e; exact new
  · rw [z0s hb] at e
    exact (x b u e).stay (fun c v _ q=>k c v q) (fun c q=>by rw [z0s (z1f q hn)]; exact q) fun c xs q=>by rw [z0s (z1f q hn)]; exact q
end

/-- what may be read as u: it is u,or a known u -/
def Rd (H : Hp) (a : Addr) (u : HO) : Prop:=H a=some u∨∃ o,H a=some (.frz o u)
theorem Rd.of {H : Hp} {a : Addr} {u : HO} (h : H a=some u) : Rd H a u:=.inl h
theorem Rd.ok {P : Program} {w : World} {H : Hp} {h : Heap} {a : Addr} {u : HO} (r : Rd H a u) (x : HOk P w H h) : ObjOk P w H h a u:=by
  rcases r with r | ⟨o,r⟩
  · exact x a u r
  · obtain ⟨_,q⟩:=x a _ r
    exact q
/-- what may be written -/
def Mut : Option HO->Prop
  | some (.lst _)=>True
  | some (.dK _)=>True
  | some (.dT _)=>True
  | some (.set _ _)=>True
  | some (.ins _ _ _)=>True
  | some (.ext _)=>True
  | _=>False
section
variable {P : Program} {w : World} {H : Hp} {h h' : Heap} {x e : Addr} {o' : HO}
/-- the object at e is changed: x itself,or the dict of the instance x -/
theorem HOk.write (ok : HOk P w H h) (mu : Mut (H x)) (he : e=x∨H e=some (.own x)) (k : ∀ b u,b≠e->h.get? b=some u->h'.get? b=some u) (heo : ∃ u,h'.get? e=some u)
    (new : ObjOk P w (upd H x o') h' x o') : HOk P w (upd H x o') h':=fun b u q=>by
  have nown : ∀ c y,H c=some (.own y)->c≠x:=fun c y r z=>by subst z; rw [r] at mu; exact mu
  have ntup : ∀ c xs,H c=some (.tup xs)->c≠x:=fun c xs r z=>by subst z; rw [r] at mu; exact mu
  by_cases hb : b=x
  · subst hb; rw [z0m] at q; cases q; exact new
  · rw [z0s hb] at q
    by_cases hbe : b=e
    · have q' : H b=some (.own x):=by
        rcases he with z | z
        · exact absurd (hbe.trans z) hb
        · rw [hbe]; exact z
      rw [q] at q'; cases q'
      obtain ⟨v,hv⟩:=heo
      exact ⟨v,by rw [hbe]; exact hv⟩
    · refine (ok b u q).stay (fun c v hc r=>k c v ?_ r) (fun c r=>by rw [z0s (nown c b r)]; exact r) fun c xs r=>by rw [z0s (ntup c xs r)]; exact r
      rcases hc with rfl | hc
      · exact hbe
      · rintro rfl
        rcases he with z | z
        · exact nown c b hc z
        · rw [hc] at z; cases z; exact hb rfl
end

/-! ### kept unless tracked; of the frames at fs (the callers') the slots may change (an exception that passes writes there); of the records at ex (iterators) nothing is said -/
structure Un (fs ex : List Addr) (H H' : Hp) (h h' : Heap) : Prop where
  keep : ∀ b o,h.get? b=some o->H b=none->b ∉ fs->b ∉ ex->h'.get? b=some o
  slot : ∀ b o,h.get? b=some o->H b=none->b∈fs->b ∉ ex->∃ sl,h'.get? b=some { o with slots:=sl }
  free : ∀ b o,h.get? b=some o->H b=none->b ∉ ex->H' b=none
  there : ∀ b o,h.get? b=some o->b ∉ ex->∃ o',h'.get? b=some o'
  tups : ∀ b xs,H b=some (.tup xs)->H' b=some (.tup xs)
  frzs : ∀ b o u,H b=some (.frz o u)->H' b=some (.frz o u)
  tbls : ∀ b ps,H b=some (.tbl ps)->∃ more,H' b=some (.tbl (ps ++ more))
section
variable {fs fs' ex ex' : List Addr} {H H1 H2 : Hp} {h h1 h2 h' : Heap} {a x e : Addr} {o : HO}
theorem Un.any (u : Un fs ex H H1 h h1) {b : Addr} {ob : Obj} (q : h.get? b=some ob) (n : H b=none) (hx : b ∉ ex) : ∃ sl,h1.get? b=some { ob with slots:=sl }:=by
  by_cases hb : b∈fs
  · exact u.slot b ob q n hb hx
  · exact ⟨ob.slots,u.keep b ob q n hb hx⟩
theorem Un.trans (a : Un fs ex H H1 h h1) (b : Un fs ex H1 H2 h1 h2) : Un fs ex H H2 h h2 where
  keep:=fun c ob q n hc hx=>b.keep c ob (a.keep c ob q n hc hx) (a.free c ob q n hx) hc hx
  slot:=fun c ob q n hc hx=>by
    obtain ⟨sl,e1⟩:=a.slot c ob q n hc hx
    obtain ⟨sl',e2⟩:=b.slot c _ e1 (a.free c ob q n hx) hc hx
    exact ⟨sl',e2⟩
  free:=fun c ob q n hx=>by
    obtain ⟨o',e1⟩:=a.there c ob q hx
    exact b.free c o' e1 (a.free c ob q n hx) hx
  there:=fun c ob q hx=>by
    obtain ⟨o',e1⟩:=a.there c ob q hx
    exact b.there c o' e1 hx
  tups:=fun c xs q=>b.tups c xs (a.tups c xs q)
  frzs:=fun c ob xs q=>b.frzs c ob xs (a.frzs c ob xs q)
  tbls:=fun c ps q=>by
    obtain ⟨m1,e1⟩:=a.tbls c ps q
    obtain ⟨m2,e2⟩:=b.tbls c _ e1
    exact ⟨m1 ++ m2,by rw [e2,Array.append_assoc]⟩
theorem Un.kept (k : ∀ b u,h.get? b=some u->h'.get? b=some u) : Un fs ex H H h h':=
  ⟨fun b ob q _ _ _=>k b ob q,fun b ob q _ _ _=>⟨ob.slots,k b ob q⟩,fun _ _ _ n _=>n,fun b ob q _=>⟨ob,k b ob q⟩,fun _ _ q=>q,fun _ _ _ q=>q,fun _ ps q=>⟨#[],by rw [q]; simp⟩⟩
theorem Un.refl : Un fs ex H H h h:=Un.kept fun _ _ q=>q
theorem Un.laid (k : ∀ b u,h.get? b=some u->h'.get? b=some u) (hp : h.objs.size≤a) (hn : H a=none) : Un fs ex H (upd H a o) h h' where
  keep:=fun b u q _ _ _=>k b u q
  slot:=fun b u q _ _ _=>⟨u.slots,k b u q⟩
  free:=fun b u q n _=>by rw [z0s (Nat.ne_of_lt (Nat.lt_of_lt_of_le (Heap.lt_size q) hp))]; exact n
  there:=fun b u q _=>⟨u,k b u q⟩
  tups:=fun b xs q=>by rw [z0s (z1f q hn)]; exact q
  frzs:=fun b u xs q=>by rw [z0s (z1f q hn)]; exact q
  tbls:=fun b ps q=>⟨#[],by rw [z0s (z1f q hn),q]; simp⟩
theorem Un.write (mu : Mut (H x)) (he : e=x∨H e=some (.own x)) (k : ∀ b u,b≠e->h.get? b=some u->h'.get? b=some u) (heo : ∃ u,h'.get? e=some u) : Un fs ex H (upd H x o) h h':=by
  have hx : ∀ b,H b=none->b≠x:=fun b n z=>by subst z; rw [n] at mu; exact mu
  have hb : ∀ b,H b=none->b≠e:=fun b n z=>by
    subst z
    rcases he with r | r
    · exact hx b n r
    · rw [n] at r; cases r
  have hm : ∀ b u,H b=some u->¬ Mut (some u)->b≠x:=fun b u q nm z=>by subst z; rw [q] at mu; exact nm mu
  refine ⟨fun b u q n _ _=>k b u (hb b n) q,fun b u q n _ _=>⟨u.slots,k b u (hb b n) q⟩,fun b u q n _=>by rw [z0s (hx b n)]; exact n,fun b u q _=>?_,
    fun b xs q=>by rw [z0s (hm b _ q fun z=>z)]; exact q,fun b u xs q=>by rw [z0s (hm b _ q fun z=>z)]; exact q,fun b ps q=>⟨#[],by rw [z0s (hm b _ q fun z=>z),q]; simp⟩⟩
  by_cases hbe : b=e
  · subst hbe; exact heo
  · exact ⟨u,k b u hbe q⟩
theorem Un.mono (u : Un fs ex H H1 h h1) (hs : ∀ b∈fs,b∈fs') (hx : ∀ b∈ex,b∈ex') : Un fs' ex' H H1 h h1:=
  ⟨fun b ob q n hb he=>u.keep b ob q n (fun z=>hb (hs b z)) fun z=>he (hx b z),fun _ _ q n _ he=>u.any q n fun z=>he (hx _ z),fun b ob q n he=>u.free b ob q n fun z=>he (hx b z),fun b ob q he=>u.there b ob q fun z=>he (hx b z),u.tups,u.frzs,u.tbls⟩
end

/-! ### the heap without what is tracked -/
def trk (h : Heap) (H : Hp) : List Addr:=(List.range h.objs.size).filter fun a=>(H a).isSome
def y6e (h : Heap) (H : Hp) : Heap:=PySem.W.hideAll h (trk h H)
theorem y1L (h : Heap) (H : Hp) : (y6e h H).objs.size=h.objs.size:=PySem.W.hideAll_size _ _
theorem y6X {h : Heap} {H : Hp} {b : Addr} {o : Obj} (e : h.get? b=some o) (n : H b=none) : (y6e h H).get? b=some o:=
  PySem.W.hideAll_get _ e fun hm=>by
    have q : (H b).isSome=true:=(List.mem_filter.mp hm).2
    rw [n] at q; simp at q
theorem of_hidT {h : Heap} {H : Hp} {b : Addr} {o : Obj} (e : (y6e h H).get? b=some o) : h.get? b=some o∧H b=none:=by
  have e' : h.get? b=some o:=PySem.W.of_hideAll (trk h H) e
  refine ⟨e',?_⟩
  cases q : H b with
  | none=>rfl
  | some x=>
    have hm : b∈trk h H:=List.mem_filter.mpr ⟨List.mem_range.mpr (Heap.lt_size e'),by simp [q]⟩
    have z : (y6e h H).get? b=none:=PySem.W.hideAll_none (trk h H) hm
    rw [z] at e; cases e

/-! ### OpenK's z8m,filled with every new object but one -/
def allNews (g h : Heap) (L : Addr) : List (Addr × Obj):=(List.range h.objs.size).filterMap fun a=>if a=L∨(g.get? a).isSome=true then none else (h.get? a).map fun o=>(a,o)
def rest (g h : Heap) (L d : Addr) : List (Addr × Obj):=(allNews g h L).filter fun p=>decide (p.1≠d)
end L2

namespace L2
open PySem PySem.Spec PyProof.Rows

/-- the module's facts,over the base: the heap at the law's entry without what is tracked there -/
structure Mod (K : PySem.W.Frag) (mg : Str->Option Value) (base : Heap) : Prop where
  kin : K.In base
  glob : base.Ns mainGlobals mg
  blt : ∃ mb,base.Ns builtinsNs mb∧∀ x : Str,x ≠ "__name__" → mb x=bootBuiltins x
  nolimit : base.NoLimit

/-- the context: a def's body (or a comprehension's block) running. base: fixed through the whole law; s₀,H₀: the entry; outer: the frames whose slots others may change (a def's callers); stack: all frames that run;
   ex: iterators that were made ahead of the entry and are walked here (a comprehension's); fn: the names whose cells were made at the entry (a def: all; a comprehension's block: its own); calm: not within an except suite; pn: pins that every state bears; xe: what is wanted of an exception that leaves the code -/
structure Cx where
  prog : Program
  w : World
  K : PySem.W.Frag
  mg : Str->Option Value
  base : Heap
  A : Around
  N : List Str
  s₀ : Shared
  H₀ : Hp
  env : Env
  outer : List Env
  stack : List Env
  ex : List Addr
  fn : Str->Bool
  calm : Bool
  pn : List (Addr × Obj)
  xe : Value->Shared->Prop
/-- the callers' frames -/
def frs (l : List Env) : List Addr:=l.filterMap (·.frame)
abbrev Cx.fs (X : Cx) : List Addr:=frs X.outer

def Vis (sc : Scope) (x : Str) : Prop:=sc.names.lookup x=some .local∨sc.names.lookup x=some .cell∨sc.names.lookup x=some .free
def Loc (sc : Scope) (x : Str) : Prop:=sc.names.lookup x=some .local∨sc.names.lookup x=some .cell
def Look (env : Env) (h : Heap) (m : Str->Option Value) (x : Str) (u : Value) : Prop:=
  (env.kindOf x=some .local∧m x=some u)∨((env.kindOf x=some .cell∨env.kindOf x=some .free)∧∃ c,env.cells.lookup x=some c∧h.IsCell c (some u))

structure Cx.Ok (X : Cx) : Prop where
  mod : Mod X.K X.mg X.base
  kind : X.env.scope.kind = .function
  glob : X.env.globals=mainGlobals
  blt : X.env.builtins=builtinsNs
  above : X.s₀.heap.objs.size≤X.env.locals
  inj : ∀ x y c,X.env.cells.lookup x=some c->X.env.cells.lookup y=some c->x=y
  has : ∀ x,(X.env.kindOf x=some .cell∨X.env.kindOf x=some .free)->∃ c,X.env.cells.lookup x=some c
  cab : ∀ x c,X.fn x=true->X.env.cells.lookup x=some c->X.s₀.heap.objs.size≤c
  hd : X.calm=true->X.A.handled=none
  frames : X.A.frames=some X.stack
  stk : X.stack=X.outer∨(X.stack=X.env :: X.outer∧X.env.frame=some X.env.locals)
  exf : ∀ b∈X.ex,b≠X.env.locals∧∀ x c,X.env.cells.lookup x=some c->c≠b
  bs : ∀ b o,X.base.get? b=some o->X.s₀.heap.get? b=some o∧X.H₀ b=none
  bsz : X.base.objs.size≤X.s₀.heap.objs.size
  noex : ∀ b o,X.base.get? b=some o->b ∉ X.ex
  exfs : ∀ b∈X.ex,b ∉ X.fs
  funs : X.s₀.heap.FunFrames X.base X.outer
  frf : ∀ b∈X.fs,X.H₀ b=none

structure Inv (X : Cx) (pins : List (Addr × Obj)) (σ : List (Option V)) (H : Hp) (s : Shared) : Prop where
  ok : X.Ok
  os : s.os=X.s₀.os
  bare : AllBare s.gens
  base : Un X.fs X.ex X.H₀ H X.s₀.heap s.heap
  loc : ∃ m,s.heap.Ns X.env.locals m∧∀ (i : Nat) (x : Str) (v : V),X.N[i]? = some x->σ[i]? = some (some v)->Vis X.env.scope x->∃ u,RelV v u∧Look X.env s.heap m x u
  cell : ∀ x c,X.env.cells.lookup x=some c->∃ v,s.heap.IsCell c v
  free : H X.env.locals=none
  freeC : ∀ x c,X.env.cells.lookup x=some c->H c=none
  pin : ∀ p∈X.pn ++ pins,s.heap.get? p.1=some p.2∧H p.1=none∧p.1≠X.env.locals∧p.1 ∉ X.fs∧∀ v,p.2.data≠.cell v
  hok : HOk X.prog X.w H s.heap
  len : σ.length=X.N.length

section
variable {X : Cx} {pins : List (Addr × Obj)} {σ : List (Option V)} {H H' : Hp} {s : Shared} {h' : Heap}

theorem Cx.Ok.nofr (ok : X.Ok) {b : Addr} {o : Obj} (e : X.base.get? b=some o) : b ∉ X.fs:=fun hb=>by
  have:=(ok.funs.mem hb).1
  rw [e] at this; cases this
theorem Inv.bs (I : Inv X pins σ H s) : ∀ b o,X.base.get? b=some o->s.heap.get? b=some o∧H b=none:=fun b o e=>
  ⟨I.base.keep b o (I.ok.bs b o e).1 (I.ok.bs b o e).2 (I.ok.nofr e) (I.ok.noex b o e),I.base.free b o (I.ok.bs b o e).1 (I.ok.bs b o e).2 (I.ok.noex b o e)⟩
theorem Inv.bk (I : Inv X pins σ H s) : ∀ b o,X.base.get? b=some o->s.heap.get? b=some o:=fun b o e=>(I.bs b o e).1
theorem Inv.mod (I : Inv X pins σ H s) : Mod X.K X.mg X.base:=I.ok.mod
theorem Inv.kIn (I : Inv X pins σ H s) : X.K.In s.heap:=I.ok.mod.kin.keeps I.bk
theorem Inv.nolimit (I : Inv X pins σ H s) : s.heap.NoLimit:=I.ok.mod.nolimit.keeps I.bk
/-- the frame over the base: for OpenK's rules (K.In X.base is I.mod.kin) -/
theorem Inv.fr (I : Inv X pins σ H s) : ∃ m,Fr X.base X.env.locals s.heap m:=
  let ⟨m,hn,_⟩:=I.loc
  ⟨m,hn,I.bk,Nat.le_trans I.ok.bsz I.ok.above⟩
theorem Inv.lt (I : Inv X pins σ H s) : X.env.locals < s.heap.objs.size:=let ⟨_,hn,_⟩:=I.loc; hn.lt
theorem Inv.sz (I : Inv X pins σ H s) : X.s₀.heap.objs.size≤s.heap.objs.size:=Nat.le_trans I.ok.above (Nat.le_of_lt I.lt)
theorem Inv.nofs (I : Inv X pins σ H s) {a : Addr} (h : s.heap.objs.size≤a) : a ∉ X.fs:=fun hb=>by
  obtain ⟨_,o,ho,_⟩:=I.ok.funs.mem hb
  exact absurd (Nat.lt_of_lt_of_le (Heap.lt_size ho) (Nat.le_trans I.sz h)) (Nat.lt_irrefl _)
theorem Inv.cne (I : Inv X pins σ H s) : ∀ x c,X.env.cells.lookup x=some c->c≠X.env.locals:=fun x c e z=>by
  obtain ⟨v,o,ho,hd⟩:=I.cell x c e
  obtain ⟨m,⟨o',es,ep,ho',hd',_⟩,_⟩:=I.loc
  rw [z,ho'] at ho; cases ho; rw [hd'] at hd; cases hd
theorem Inv.funs (I : Inv X pins σ H s) : s.heap.FunFrames X.base X.outer:=by
  have all : ∀ (l : List Env),(∀ b∈frs l,b∈X.fs)->X.s₀.heap.FunFrames X.base l->s.heap.FunFrames X.base l:=by
    intro l
    induction l with
    | nil=>intro _ _; trivial
    | cons env r ih=>
      intro hs hl
      obtain ⟨hk,⟨L,o,hf,hn,ho,hd⟩,hr⟩:=hl
      have hL : L∈X.fs:=hs L (by unfold frs; rw [List.filterMap_cons,hf]; exact List.mem_cons_self)
      obtain ⟨sl,e⟩:=I.base.slot L o ho (I.ok.frf L hL) hL fun z=>I.ok.exfs L z hL
      exact ⟨hk,⟨L,_,hf,hn,e,hd⟩,ih (fun b hb=>hs b (by unfold frs; rw [List.filterMap_cons,hf]; exact List.mem_cons_of_mem _ hb)) hr⟩
  exact all X.outer (fun _ hb=>hb) I.ok.funs

/-- the frames that run,for a call -/
theorem Inv.stack (I : Inv X pins σ H s) : s.heap.FunFrames X.base X.stack:=by
  rcases I.ok.stk with e | ⟨e,hf⟩
  · rw [e]; exact I.funs
  · rw [e]
    obtain ⟨m,hn,_⟩:=I.loc
    refine .cons (by rw [I.ok.kind]; decide) hf hn ?_ I.funs
    exact Heap.get?_none_of_le (Nat.le_trans I.ok.bsz I.ok.above)
theorem Inv.stkSub (I : Inv X pins σ H s) : ∀ b∈frs X.stack,b∈X.env.locals :: X.fs:=fun b hb=>by
  rcases I.ok.stk with e | ⟨e,hf⟩
  · rw [e] at hb; exact List.mem_cons_of_mem _ hb
  · rw [e] at hb
    unfold frs at hb
    rw [List.filterMap_cons,hf] at hb
    exact hb
theorem Inv.stkFree (I : Inv X pins σ H s) : ∀ b∈frs X.stack,H b=none:=fun b hb=>by
  rcases List.mem_cons.mp (I.stkSub b hb) with e | hb
  · rw [e]; exact I.free
  · obtain ⟨_,o,ho,_⟩:=I.ok.funs.mem hb
    exact I.base.free b o ho (I.ok.frf b hb) fun z=>I.ok.exfs b z hb

/-- THE STEP: the untracked objects but the frame and the records at ch are kept (the callers' frames up to slots),the frame's map is kept,the new abstract heap is held -/
theorem Inv.step {g' : Array GenState} {t' : Nat} {d' : Drawn} {ch : List Addr} (I : Inv X pins σ H s)
    (hch : ∀ b∈ch,(b∈X.ex∨X.s₀.heap.objs.size≤b)∧b≠X.env.locals∧(∀ x c,X.env.cells.lookup x=some c->c≠b)∧∀ p∈X.pn ++ pins,p.1≠b)
    (keep : ∀ b o,b≠X.env.locals->b ∉ X.fs->b ∉ ch->s.heap.get? b=some o->H b=none->h'.get? b=some o)
    (slot : ∀ b o,b≠X.env.locals->b∈X.fs->b ∉ ch->s.heap.get? b=some o->H b=none->∃ sl,h'.get? b=some { o with slots:=sl }) (free : ∀ b o,b ∉ ch->s.heap.get? b=some o->H b=none->H' b=none)
    (there : ∀ b o,b ∉ ch->s.heap.get? b=some o->∃ o',h'.get? b=some o')
    (tups : ∀ b xs,H b=some (.tup xs)->H' b=some (.tup xs)) (frzs : ∀ b o u,H b=some (.frz o u)->H' b=some (.frz o u)) (tbls : ∀ b ps,H b=some (.tbl ps)->∃ more,H' b=some (.tbl (ps ++ more)))
    (ns : ∀ m,s.heap.Ns X.env.locals m->h'.Ns X.env.locals m) (hok : HOk X.prog X.w H' h') (hg : AllBare g') :
    Inv X pins σ H' { s with heap:=h',gens:=g',drawn:=d',toks:=t' }:=by
  have neL : ∀ b o,X.s₀.heap.get? b=some o->b≠X.env.locals:=fun b o e=>Nat.ne_of_lt (Nat.lt_of_lt_of_le (Heap.lt_size e) I.ok.above)
  have neC : ∀ b o,X.s₀.heap.get? b=some o->b ∉ X.ex->b ∉ ch:=fun b o e hx hb=>by
    rcases (hch b hb).1 with z | z
    · exact hx z
    · exact absurd (Nat.lt_of_lt_of_le (Heap.lt_size e) z) (Nat.lt_irrefl _)
  have cellK : ∀ x c,X.env.cells.lookup x=some c->∀ v,s.heap.IsCell c v->h'.IsCell c v:=fun x c e v ⟨o,ho,hd⟩=>by
    have nch : c ∉ ch:=fun z=>(hch c z).2.2.1 x c e rfl
    by_cases hc : c∈X.fs
    · obtain ⟨sl,q⟩:=slot c o (I.cne x c e) hc nch ho (I.freeC x c e)
      exact ⟨_,q,hd⟩
    · exact ⟨o,keep c o (I.cne x c e) hc nch ho (I.freeC x c e),hd⟩
  refine ⟨I.ok,I.os,hg,⟨fun b o e n hb hx=>?_,fun b o e n hb hx=>?_,fun b o e n hx=>?_,fun b o e hx=>?_,fun b xs e=>tups b xs (I.base.tups b xs e),fun b o xs e=>frzs b o xs (I.base.frzs b o xs e),fun b ps e=>?_⟩,?_,fun x c e=>?_,?_,fun x c e=>?_,fun p hp=>?_,hok,I.len⟩
  · exact keep b o (neL b o e) hb (neC b o e hx) (I.base.keep b o e n hb hx) (I.base.free b o e n hx)
  · obtain ⟨sl,e1⟩:=I.base.slot b o e n hb hx
    obtain ⟨sl',e2⟩:=slot b _ (neL b o e) hb (neC b o e hx) e1 (I.base.free b o e n hx)
    exact ⟨sl',e2⟩
  · obtain ⟨o',e1⟩:=I.base.there b o e hx
    exact free b o' (neC b o e hx) e1 (I.base.free b o e n hx)
  · obtain ⟨o',e1⟩:=I.base.there b o e hx
    exact there b o' (neC b o e hx) e1
  · obtain ⟨m1,e1⟩:=I.base.tbls b ps e
    obtain ⟨m2,e2⟩:=tbls b _ e1
    exact ⟨m1 ++ m2,by rw [e2,Array.append_assoc]⟩
  · obtain ⟨m,hn,hl⟩:=I.loc
    refine ⟨m,ns m hn,fun i x v e1 e2 e3=>?_⟩
    obtain ⟨u,r,l⟩:=hl i x v e1 e2 e3
    refine ⟨u,r,?_⟩
    rcases l with l | ⟨k,c,e,z⟩
    · exact .inl l
    · exact .inr ⟨k,c,e,cellK x c e _ z⟩
  · obtain ⟨v,z⟩:=I.cell x c e
    exact ⟨v,cellK x c e v z⟩
  · obtain ⟨m,⟨o,_,_,ho,_⟩,_⟩:=I.loc
    exact free _ o (fun z=>(hch _ z).2.1 rfl) ho I.free
  · obtain ⟨v,o,ho,hd⟩:=I.cell x c e
    exact free c o (fun z=>(hch c z).2.2.1 x c e rfl) ho (I.freeC x c e)
  · obtain ⟨e,n,ne,nf,d⟩:=I.pin p hp
    have nch : p.1 ∉ ch:=fun z=>(hch p.1 z).2.2.2 p hp rfl
    exact ⟨keep p.1 p.2 ne nf nch e n,free p.1 p.2 nch e n,ne,nf,d⟩
/-- .. where the frame's own object is kept too -/
theorem Inv.un {t' : Nat} (I : Inv X pins σ H s) (u : Un X.fs [] H H' s.heap h') (hok : HOk X.prog X.w H' h') : Inv X pins σ H' { s with heap:=h',toks:=t' }:=by
  obtain ⟨m,⟨o,es,ep,ho,r⟩,_⟩:=id I.loc
  obtain ⟨sl,hL⟩:=u.any ho I.free (by simp)
  exact I.step (g':=s.gens) (d':=s.drawn) (ch:=[]) (fun _ z=>nomatch z) (fun b o _ hb _ e n=>u.keep b o e n hb (by simp)) (fun b o _ hb _ e n=>u.slot b o e n hb (by simp)) (fun b o _ e n=>u.free b o e n (by simp)) (fun b o _ e=>u.there b o e (by simp)) u.tups u.frzs u.tbls (fun m' hm=>by
    obtain ⟨o',es',ep',ho',r'⟩:=hm
    rw [ho] at ho'; cases ho'
    exact ⟨_,es',ep',hL,r'⟩) hok I.bare
/-- behind a call (or a comprehension's block): the slots of this frame may have changed too,the records at ch may have turned -/
theorem Inv.call {g' : Array GenState} {t' : Nat} {d' : Drawn} {ch : List Addr} (I : Inv X pins σ H s) (u : Un (frs X.stack) ch H H' s.heap h') (hok : HOk X.prog X.w H' h') (hg : AllBare g')
    (hch : ∀ b∈ch,(b∈X.ex∨X.s₀.heap.objs.size≤b)∧b≠X.env.locals∧(∀ x c,X.env.cells.lookup x=some c->c≠b)∧∀ p∈X.pn ++ pins,p.1≠b) :
    Inv X pins σ H' { s with heap:=h',gens:=g',drawn:=d',toks:=t' }:=by
  obtain ⟨m,⟨o,es,ep,ho,r⟩,_⟩:=id I.loc
  obtain ⟨sl,hL⟩:=u.any ho I.free fun z=>(hch _ z).2.1 rfl
  exact I.step (ch:=ch) hch (fun b o hL hb hc e n=>u.keep b o e n (fun z=>(List.mem_cons.mp (I.stkSub b z)).elim hL hb) hc) (fun b o _ _ hc e n=>u.any e n hc) (fun b o hc e n=>u.free b o e n hc) (fun b o hc e=>u.there b o e hc) u.tups u.frzs u.tbls (fun m' hm=>by
    obtain ⟨o',es',ep',ho',r'⟩:=hm
    rw [ho] at ho'; cases ho'
    exact ⟨_,es',ep',hL,r'⟩) hok hg
/-- an untracked record of ours (an iterator) has turned -/
theorem Inv.turned {t' : Nat} {it : Addr} (I : Inv X pins σ H s) (k : ∀ b o,b≠it->s.heap.get? b=some o->h'.get? b=some o) (hn : H it=none) (hL : it≠X.env.locals)
    (h1 : it∈X.ex∨X.s₀.heap.objs.size≤it) (h2 : ∀ x c,X.env.cells.lookup x=some c->c≠it) (h3 : ∀ p∈X.pn ++ pins,p.1≠it) : Inv X pins σ H { s with heap:=h',toks:=t' }:=by
  have nit : ∀ b u,H b=some u->b≠it:=fun b u e z=>by rw [z,hn] at e; cases e
  refine I.step (g':=s.gens) (d':=s.drawn) (ch:=[it]) (fun b hb=>?_) (fun b o _ _ hc e _=>k b o (fun z=>hc (by simp [z])) e) (fun b o _ _ hc e _=>⟨o.slots,k b o (fun z=>hc (by simp [z])) e⟩) (fun _ _ _ _ n=>n)
    (fun b o hc e=>⟨o,k b o (fun z=>hc (by simp [z])) e⟩) (fun _ _ e=>e) (fun _ _ _ e=>e) (fun b ps e=>⟨#[],by rw [e]; simp⟩) (fun m hm=>?_) (fun b u e=>?_) I.bare
  · have e : b=it:=by simpa using hb
    subst e
    exact ⟨h1,hL,h2,h3⟩
  · obtain ⟨o,es,ep,ho,r⟩:=hm
    exact ⟨o,es,ep,k _ o (Ne.symm hL) ho,r⟩
  · refine (I.hok b u e).stay (fun c v hc q=>k c v ?_ q) (fun _ q=>q) fun _ _ q=>q
    rcases hc with z | z
    · rw [z]; exact nit b u e
    · exact nit c _ z
theorem Inv.tok (I : Inv X pins σ H s) (t : Nat) : Inv X pins σ H { s with toks:=t }:=I.un (h':=s.heap) (t':=t) Un.refl I.hok
/-- all objects kept -/
theorem Inv.kept {t' : Nat} (I : Inv X pins σ H s) (k : ∀ b u,s.heap.get? b=some u->h'.get? b=some u) : Inv X pins σ H { s with heap:=h',toks:=t' }:=I.un (Un.kept k) (I.hok.kept k)
/-- a new object laid and tracked -/
theorem Inv.laid {a : Addr} {o : HO} {t' : Nat} (I : Inv X pins σ H s) (k : ∀ b u,s.heap.get? b=some u->h'.get? b=some u) (hp : s.heap.objs.size≤a) (new : ObjOk X.prog X.w (upd H a o) h' a o) :
    Inv X pins σ (upd H a o) { s with heap:=h',toks:=t' }:=I.un (Un.laid k hp (I.hok.fresh hp)) (I.hok.laid k hp new)
/-- an object written -/
theorem Inv.write {x e : Addr} {o : HO} {t' : Nat} (I : Inv X pins σ H s) (mu : Mut (H x)) (he : e=x∨H e=some (.own x)) (k : ∀ b u,b≠e->s.heap.get? b=some u->h'.get? b=some u) (heo : ∃ u,h'.get? e=some u)
    (new : ObjOk X.prog X.w (upd H x o) h' x o) : Inv X pins σ (upd H x o) { s with heap:=h',toks:=t' }:=I.un (Un.write mu he k heo) (I.hok.write mu he k heo new)
/-- forgetting slots,pins -/
theorem Inv.weak {σ' : List (Option V)} (I : Inv X pins σ H s) (hl : σ'.length=σ.length) (w : ∀ (i : Nat) v,σ'[i]? = some (some v)->σ[i]? = some (some v)) : Inv X pins σ' H s:=
  ⟨I.ok,I.os,I.bare,I.base,let ⟨m,hn,hl'⟩:=I.loc; ⟨m,hn,fun i x v e1 e2 e3=>hl' i x v e1 (w i v e2) e3⟩,I.cell,I.free,I.freeC,I.pin,I.hok,hl.trans I.len⟩
theorem Inv.pins_of {pins' : List (Addr × Obj)} (I : Inv X pins σ H s) (h : ∀ p∈pins',s.heap.get? p.1=some p.2∧H p.1=none∧p.1≠X.env.locals∧p.1 ∉ X.fs∧∀ v,p.2.data≠.cell v) : Inv X pins' σ H s:=
  ⟨I.ok,I.os,I.bare,I.base,I.loc,I.cell,I.free,I.freeC,fun p hp=>(List.mem_append.mp hp).elim (fun z=>I.pin p (List.mem_append_left _ z)) (h p),I.hok,I.len⟩

theorem z6S {N : List Str} (hN : N.Nodup) {i j : Nat} {x : Str} (a : N[i]? = some x) (b : N[j]? = some x) : i=j:=by
  obtain ⟨h1,e1⟩:=List.getElem?_eq_some_iff.mp a
  obtain ⟨h2,e2⟩:=List.getElem?_eq_some_iff.mp b
  exact (List.getElem_inj hN).mp (e1.trans e2.symm)

/-- a name is stored; what changed -/
theorem z7O {M : Model} {A : Around} {E : Value->Shared->Prop} {i : Nat} {x : Str} {v : V} {u : Value} {Q : Unit->Shared->Prop} (I : Inv X pins σ H s) (hN : X.N.Nodup) (hi : X.N[i]? = some x) (hx : Loc X.env.scope x) (r : RelV v u)
    (h : ∀ s',Inv X pins (σ.set i (some v)) H s'->(∃ a,Heap.SameBut a s.heap s'.heap∧(a=X.env.locals∨X.env.cells.lookup x=some a))->Q () s') (hf : X.fn x=true∨X.env.scope.names.lookup x=some .local:=by first | exact .inl rfl | exact .inr rfl | assumption) : wpAny M A (storeName X.env x u) Q E s:=by
  obtain ⟨m,hn,hl⟩:=id I.loc
  have hcls : (X.env.scope.kind == .class || (X.env.scope.kind == .module && X.env.locals != X.env.globals))=false:=by rw [I.ok.kind]; rfl
  have hiσ : i < σ.length:=by rw [I.len]; exact (List.getElem?_eq_some_iff.mp hi).1
  have cne:=I.cne
  have tracked : ∀ {a : Addr} {h' : Heap},(∃ o,s.heap.get? a=some o∧H a=none)->Heap.SameBut a s.heap h'->HOk X.prog X.w H h':=fun {a h'} ha hs b ob e=>by
    obtain ⟨_,_,hfree⟩:=ha
    refine (I.hok b ob e).stay (fun c w' hc q=>(hs.2 c ?_).trans q) (fun _ q=>q) fun _ _ q=>q
    rintro rfl
    rcases hc with rfl | hc
    · rw [hfree] at e; cases e
    · rw [hfree] at hc; cases hc
  rcases hx with hk | hk
  · refine wpAny_storeName_local hk hn (fun h' hn' hs=>?_) hcls
    obtain ⟨oL,_,_,hoL,_⟩:=id hn
    refine h _ ⟨I.ok,I.os,I.bare,⟨fun b o e n hb hx=>?_,fun b o e n hb hx=>?_,I.base.free,fun b o e hx=>?_,I.base.tups,I.base.frzs,I.base.tbls⟩,⟨_,hn',fun j y v' e1 e2 e3=>?_⟩,fun y c e=>?_,I.free,I.freeC,fun p hp=>?_,tracked ⟨oL,hoL,I.free⟩ hs,by simpa using I.len⟩ ⟨_,hs,.inl rfl⟩
    · exact (hs.2 b (Nat.ne_of_lt (Nat.lt_of_lt_of_le (Heap.lt_size e) I.ok.above))).trans (I.base.keep b o e n hb hx)
    · obtain ⟨sl,e1⟩:=I.base.slot b o e n hb hx
      exact ⟨sl,(hs.2 b (Nat.ne_of_lt (Nat.lt_of_lt_of_le (Heap.lt_size e) I.ok.above))).trans e1⟩
    · obtain ⟨o',e1⟩:=I.base.there b o e hx
      exact ⟨o',(hs.2 b (Nat.ne_of_lt (Nat.lt_of_lt_of_le (Heap.lt_size e) I.ok.above))).trans e1⟩
    · by_cases hj : j=i
      · subst hj
        rw [hi] at e1; cases e1
        rw [List.getElem?_set_self hiσ] at e2
        cases e2
        exact ⟨u,r,.inl ⟨hk,by simp⟩⟩
      · rw [List.getElem?_set_ne (Ne.symm hj)] at e2
        obtain ⟨u',r',q⟩:=hl j y v' e1 e2 e3
        refine ⟨u',r',?_⟩
        rcases q with ⟨k,e⟩ | ⟨k,c,e,z⟩
        · refine .inl ⟨k,?_⟩
          have : y≠x:=fun e=>hj (z6S hN e1 (e ▸ hi))
          simp [this,e]
        · exact .inr ⟨k,c,e,z.sameBut hs (cne y c e)⟩
    · obtain ⟨w',z⟩:=I.cell y c e
      exact ⟨w',z.sameBut hs (cne y c e)⟩
    · obtain ⟨e,n,ne,nf,d⟩:=I.pin p hp
      exact ⟨(hs.2 p.1 ne).trans e,n,ne,nf,d⟩
  · have hfn : X.fn x=true:=by
      rcases hf with z | z
      · exact z
      · rw [z] at hk; cases hk
    obtain ⟨c,hc⟩:=I.ok.has x (.inl hk)
    obtain ⟨w',z⟩:=I.cell x c hc
    refine wpAny_storeName_cell I.ok.kind hk hc z (fun h' hc' hs=>?_)
    obtain ⟨oc,hoc,hocd⟩:=id z
    refine h { s with heap:=h' } ⟨I.ok,I.os,I.bare,⟨fun b o e n hb hx=>?_,fun b o e n hb hx=>?_,I.base.free,fun b o e hx=>?_,I.base.tups,I.base.frzs,I.base.tbls⟩,⟨m,hn.sameBut hs (Ne.symm (cne x c hc)),fun j y v' e1 e2 e3=>?_⟩,fun y c' e=>?_,I.free,I.freeC,fun p hp=>?_,tracked ⟨oc,hoc,I.freeC x c hc⟩ hs,by simpa using I.len⟩ ⟨c,hs,.inr hc⟩
    · exact (hs.2 b (Nat.ne_of_lt (Nat.lt_of_lt_of_le (Heap.lt_size e) (I.ok.cab x c hfn hc)))).trans (I.base.keep b o e n hb hx)
    · obtain ⟨sl,e1⟩:=I.base.slot b o e n hb hx
      exact ⟨sl,(hs.2 b (Nat.ne_of_lt (Nat.lt_of_lt_of_le (Heap.lt_size e) (I.ok.cab x c hfn hc)))).trans e1⟩
    · obtain ⟨o',e1⟩:=I.base.there b o e hx
      exact ⟨o',(hs.2 b (Nat.ne_of_lt (Nat.lt_of_lt_of_le (Heap.lt_size e) (I.ok.cab x c hfn hc)))).trans e1⟩
    · by_cases hj : j=i
      · subst hj
        rw [hi] at e1; cases e1
        rw [List.getElem?_set_self hiσ] at e2
        cases e2
        exact ⟨u,r,.inr ⟨.inl hk,c,hc,hc'⟩⟩
      · rw [List.getElem?_set_ne (Ne.symm hj)] at e2
        obtain ⟨u',r',q⟩:=hl j y v' e1 e2 e3
        refine ⟨u',r',?_⟩
        rcases q with q | ⟨k,c',e,z'⟩
        · exact .inl q
        · refine .inr ⟨k,c',e,z'.sameBut hs ?_⟩
          rintro rfl
          exact hj (z6S hN e1 (I.ok.inj _ _ _ e hc ▸ hi))
    · by_cases hcc : c'=c
      · subst hcc; exact ⟨_,hc'⟩
      · obtain ⟨w2,z2⟩:=I.cell y c' e
        exact ⟨w2,z2.sameBut hs hcc⟩
    · obtain ⟨e,n,ne,nf,d⟩:=I.pin p hp
      refine ⟨(hs.2 p.1 ?_).trans e,n,ne,nf,d⟩
      intro q
      rw [q,hoc] at e
      have q' : oc=p.2:=Option.some.inj e
      exact d w' (by rw [← q']; exact hocd)
theorem z6A {M : Model} {A : Around} {E : Value->Shared->Prop} {i : Nat} {x : Str} {v : V} {u : Value} {Q : Unit->Shared->Prop} (I : Inv X pins σ H s) (hN : X.N.Nodup) (hi : X.N[i]? = some x) (hx : Loc X.env.scope x) (r : RelV v u)
    (h : ∀ s',Inv X pins (σ.set i (some v)) H s'->Q () s') (hf : X.fn x=true∨X.env.scope.names.lookup x=some .local:=by first | exact .inl rfl | exact .inr rfl | assumption) : wpAny M A (storeName X.env x u) Q E s:=
  z7O I hN hi hx r (fun s' I' _=>h s' I') hf
/-- behind a call or a block,the state as it is -/
theorem Inv.call' {s' : Shared} {ch : List Addr} (I : Inv X pins σ H s) (ho : s'.os=s.os) (u : Un (frs X.stack) ch H H' s.heap s'.heap) (hok : HOk X.prog X.w H' s'.heap) (hg : AllBare s'.gens)
    (hch : ∀ b∈ch,(b∈X.ex∨X.s₀.heap.objs.size≤b)∧b≠X.env.locals∧(∀ x c,X.env.cells.lookup x=some c->c≠b)∧∀ p∈X.pn ++ pins,p.1≠b) : Inv X pins σ H' s':=by
  obtain ⟨h',g',d',t',o'⟩:=s'
  have e : o'=s.os:=ho
  subst e
  exact I.call (g':=g') (t':=t') (d':=d') u hok hg hch
end

/-! ### the judgements -/
/-- an exception: its class,its own dict's address (where it has one),the abstract heap behind it -/
abbrev XK:=Value->Option Addr->Hp->Prop
abbrev St:=List (Option V)
abbrev VK:=V->Hp->Prop
/-- an expression's reading; a test's; an argument list's -/
abbrev TE:=St->Hp->VK->Prop
abbrev TT:=St->Hp->(Bool->Hp->Prop)->Prop
abbrev TA:=St->Hp->(List V->Hp->Prop)->Prop
/-- what is wanted behind a statement -/
structure Ends where
  nx : St->Hp->Prop
  rt : VK
  bk : St->Hp->Prop:=fun _ _=>False
  ct : St->Hp->Prop:=fun _ _=>False
abbrev TS:=Ends->St->Hp->Prop

def EP (X : Cx) (pins : List (Addr × Obj)) (σ : St) (Q : VK) (u : Value) (s' : Shared) : Prop:=∃ v H',Inv X pins σ H' s'∧RelV v u∧Q v H'
def TP (X : Cx) (pins : List (Addr × Obj)) (σ : St) (Q : Bool->Hp->Prop) (b : Bool) (s' : Shared) : Prop:=∃ H',Inv X pins σ H' s'∧Q b H'
def AP (X : Cx) (pins : List (Addr × Obj)) (σ : St) (Q : List V->Hp->Prop) (us : List Value) (s' : Shared) : Prop:=∃ vs H',Inv X pins σ H' s'∧Vals vs us∧Q vs H'
def SP (X : Cx) (pins : List (Addr × Obj)) (D : Ends) (f : Flow) (s' : Shared) : Prop:=
  match f with
  | .next=>∃ σ' H',Inv X pins σ' H' s'∧D.nx σ' H'
  | .brk=>∃ σ' H',Inv X pins σ' H' s'∧D.bk σ' H'
  | .cont=>∃ σ' H',Inv X pins σ' H' s'∧D.ct σ' H'
  | .ret u=>∃ v σ' H',Inv X pins σ' H' s'∧RelV v u∧D.rt v H'

def PE (X : Cx) (e : Expr) (t : TE) : Prop:=
  ∀ (pins : List (Addr × Obj)) (s : Shared) (σ : St) (H : Hp) (Q : VK),Inv X pins σ H s->t σ H Q->wpAny (model X.prog X.w) X.A (eval e X.env) (EP X pins σ Q) X.xe s
def PT (X : Cx) (e : Expr) (t : TT) : Prop:=
  ∀ (pins : List (Addr × Obj)) (s : Shared) (σ : St) (H : Hp) (Q : Bool->Hp->Prop),Inv X pins σ H s->t σ H Q->wpAny (model X.prog X.w) X.A (isTrue e X.env (eval e X.env)) (TP X pins σ Q) X.xe s
/-- a test whatever its 'whole' is (and,or) -/
def PW (X : Cx) (e : Expr) (t : TT) : Prop:=
  ∀ (whole : Sem Value) (pins : List (Addr × Obj)) (s : Shared) (σ : St) (H : Hp) (Q : Bool->Hp->Prop),Inv X pins σ H s->t σ H Q->wpAny (model X.prog X.w) X.A (isTrue e X.env whole) (TP X pins σ Q) X.xe s
theorem PW.pt {X : Cx} {e : Expr} {t : TT} (h : PW X e t) : PT X e t:=h _
/-- an argument list (no star),from the left -/
def PA (X : Cx) (es : List Expr) (t : TA) : Prop:=
  ∀ (pos : Pos) (pins : List (Addr × Obj)) (s : Shared) (σ : St) (H : Hp) (Q : List V->Hp->Prop),Inv X pins σ H s->t σ H Q->wpAny (model X.prog X.w) X.A (spliced (backTo pos (starEach es X.env))) (AP X pins σ Q) X.xe s
def PS (X : Cx) (st : Stmt) (t : TS) : Prop:=
  ∀ (pins : List (Addr × Obj)) (s : Shared) (σ : St) (H : Hp) (D : Ends),Inv X pins σ H s->t D σ H->wpAny (model X.prog X.w) X.A (exec st X.env) (SP X pins D) X.xe s
def PSs (X : Cx) (st : List Stmt) (t : TS) : Prop:=
  ∀ (pins : List (Addr × Obj)) (s : Shared) (σ : St) (H : Hp) (D : Ends),Inv X pins σ H s->t D σ H->wpAny (model X.prog X.w) X.A (execs st X.env) (SP X pins D) X.xe s
/-- weaken the end -/
theorem thn {α : Type} {t : Sem α} {Q Q' : α->Shared->Prop} {M : Model} {A : Around} {E : Value->Shared->Prop} {s : Shared} (h : wpAny M A t Q E s) (hQ : ∀ a s,Q a s->Q' a s) : wpAny M A t Q' E s:=wpAny_mono h hQ fun _ _ x=>x
end L2

namespace L2
open PySem PySem.Spec PyProof.Rows
section
variable {X : Cx}


/-! ### names and constants -/
def z9Y (i : Nat) : TE:=fun σ H Q=>∃ v,σ[i]? = some (some v)∧Q v H
def tC (v : V) : TE:=fun _ H Q=>Q v H
theorem pe_var {i : Nat} {x : Str} {pos : Pos} (hN : X.N[i]? = some x) (hv : Vis X.env.scope x) (hd : (x == ("__debug__" : Str))=false:=by decide) (hcd : (x == ("__classdict__" : Str))=false:=by decide) : PE X (.Name x pos) (z9Y i):=by
  intro pins s σ H Q I h
  obtain ⟨v,e,h⟩:=h
  obtain ⟨m,hn,hl⟩:=I.loc
  obtain ⟨u,r,l⟩:=hl i x v hN e hv
  have fin : EP X pins σ Q u s:=⟨v,H,I,r,h⟩
  rcases l with ⟨hk,hm⟩ | ⟨hk,c,hc,hcell⟩
  · exact wpAny_Name (wpAny_loadName_local I.ok.kind hk hn hm fin) hd
  · rcases hk with hk | hk
    · exact wpAny_Name (wpAny_loadName_cell I.ok.kind hk hc hcell fin) hd
    · exact wpAny_Name (wpAny_loadName_free I.ok.kind hk hc hcell fin hcd) hd
theorem pe_int {i j pos} : PE X (.Constant (.int i) j pos) (tC (.int i)):=fun _ _ _ H _ I h=>wpAny_Constant_int ⟨.int i,H,I.tok _,⟨_,rfl⟩,h⟩
theorem pe_bl {b j pos} : PE X (.Constant (.bool b) j pos) (tC (.bl b)):=fun _ _ _ H _ I h=>Constant_bool ⟨.bl b,H,I,rfl,h⟩
theorem pe_non {j pos} : PE X (.Constant .none j pos) (tC .non):=fun _ _ _ H _ I h=>Constant_none ⟨.non,H,I,rfl,h⟩
theorem pe_str {x j pos} : PE X (.Constant (.str x) j pos) (tC (.str x)):=fun _ _ _ H _ I h=>Calls.Constant_str ⟨.str x,H,I.tok _,⟨_,rfl⟩,h⟩

/-- a global name of the def -/
def Gl (X : Cx) (x : Str) : Prop:=X.env.kindOf x=some .globalImplicit
theorem z5r {E : Value->Shared->Prop} {pins : List (Addr × Obj)} {s : Shared} {σ : St} {H : Hp} {x : Str} {u : Value} {pos : Pos} {Q : Value->Shared->Prop} (I : Inv X pins σ H s) (hg : Gl X x) (hm : X.mg x=some u) (h : Q u s)
    (hd : (x == ("__debug__" : Str))=false:=by decide) : wpAny (model X.prog X.w) X.A (eval (.Name x pos) X.env) Q E s:=
  Calls.Name_function_global I.ok.kind hg (Calls.loadGlobal_global (by rw [I.ok.glob]; exact I.mod.glob.keeps I.bk) hm h) hd
theorem z4Y {E : Value->Shared->Prop} {pins : List (Addr × Obj)} {s : Shared} {σ : St} {H : Hp} {x : Str} {u : Value} {pos : Pos} {Q : Value->Shared->Prop} (I : Inv X pins σ H s) (hg : Gl X x) (hm : X.mg x=none) (hv : bootBuiltins x=some u) (h : Q u s)
    (hn : x ≠ "__name__" := by decide) (hd : (x == ("__debug__" : Str))=false:=by decide) : wpAny (model X.prog X.w) X.A (eval (.Name x pos) X.env) Q E s:=by
  obtain ⟨mb,h1,h2⟩:=I.mod.blt
  exact Calls.Name_function_global I.ok.kind hg (Calls.loadGlobal_builtin (by rw [I.ok.glob]; exact I.mod.glob.keeps I.bk) hm (by rw [I.ok.blt]; exact h1.keeps I.bk) ((h2 x hn).trans hv) h) hd
theorem pe_bltn {x : Str} {v : V} {u : Value} {pos : Pos} (hg : Gl X x) (hm : X.mg x=none) (hv : bootBuiltins x=some u) (r : RelV v u) (hn : x ≠ "__name__" := by decide) (hd : (x == ("__debug__" : Str))=false:=by decide) : PE X (.Name x pos) (tC v):=
  fun _ _ _ H _ I h=>z4Y I hg hm hv ⟨v,H,I,r,h⟩ hn hd

/-! ### arithmetic -/
variable {a b : Expr} {ta tb : TE} {pos : Pos}

/-! ### comparisons -/
def PC (X : Cx) (op : CmpOp) (a b : Expr) (t : TE) : Prop:=
  ∀ (pins : List (Addr × Obj)) (s : Shared) (σ : St) (H : Hp) (Q : VK),Inv X pins σ H s->t σ H Q →
    wpAny (model X.prog X.w) X.A (eval a X.env) (fun v s₁=>wpAny (model X.prog X.w) X.A (eval b X.env) (fun u s₂=>wpAny (model X.prog X.w) X.A (compareOp op v u) (EP X pins σ Q) X.xe s₂) X.xe s₁) X.xe s
theorem y5B (b : Expr) {op : CmpOp} (h : op≠.In) (h2 : op≠.NotIn) : behindInMarks op b=false:=by
  have e1 : (op == CmpOp.In)=false:=by cases op <;> first | rfl | exact absurd rfl h
  have e2 : (op == CmpOp.NotIn)=false:=by cases op <;> first | rfl | exact absurd rfl h2
  cases b <;> simp [behindInMarks,e1,e2]
def tNotN (ta : TE) : TE:=fun σ H Q=>ta σ H fun x H1=>Q (.bl (!decide (x = .non))) H1
theorem RelV.none_iff {x : V} {v : Value} (r : RelV x v) : (v == Value.none)=decide (x = .non):=by
  cases x with
  | non=>cases r; rfl
  | bl _=>cases r; rfl
  | int _=>obtain ⟨t,rfl⟩:=r; rfl
  | str _=>obtain ⟨t,rfl⟩:=r; rfl
  | byt _=>obtain ⟨t,rfl⟩:=r; rfl
  | flt _=>obtain ⟨t,rfl⟩:=r; rfl
  | ref _=>cases r; rfl
  | ty _=>cases r; rfl
theorem pc_notN {j pos'} (ha : PE X a ta) : PC X .IsNot a (.Constant .none j pos') (tNotN ta):=by
  intro pins s σ H Q I h
  refine thn (ha pins s σ H _ I h) fun v s1 ⟨x,H1,I1,r1,q1⟩=>?_
  exact Constant_none (isnot_none_gen ⟨.bl _,H1,I1,by rw [r1.none_iff]; rfl,q1⟩)
/-- a comparison as a value,as a test -/
def tB (t : TE) : TT:=fun σ H Q=>t σ H fun x H1=>∃ c,x = .bl c∧Q c H1
theorem y8p {op : CmpOp} {t : TE} (h : PC X op a b t) (h1 : behindInMarks op b=false:=by first | exact y5B _ (by decide) (by decide) | rfl) : PT X (.Compare a [op] [b] pos) (tB t):=by
  intro pins s σ H Q I hw
  refine wpAny_isTrue_Compare1 (thn (h pins s σ H _ I hw) fun v s1 h1=>thn h1 fun u s2 h2=>thn h2 fun c s3 ⟨x,H1,I1,r1,q1⟩=>?_) h1
  obtain ⟨d,rfl,q⟩:=q1
  cases r1
  exact wpAny_truthy_bool ⟨H1,I1,q⟩

/-! ### and,or,not -/
variable {tA tB' : TT} {rest : List Expr}
def tAnd (t u : TT) : TT:=fun σ H Q=>t σ H fun c H1=>if c=true then u σ H1 Q else Q false H1
def tOr (t u : TT) : TT:=fun σ H Q=>t σ H fun c H1=>if c=true then Q true H1 else u σ H1 Q
def tNot (t : TT) : TT:=fun σ H Q=>t σ H fun c H1=>Q (!c) H1
theorem pw_and1 (ha : PT X a tA) : PW X (.BoolOp .And [a] pos) tA:=by
  intro wh pins s σ H Q I h
  refine isTrue_and (thn (ha pins s σ H Q I h) fun c s1 e=>?_)
  cases c with
  | true=>exact isTrue_and_nil e
  | false=>exact e
theorem pw_or1 (ha : PT X a tA) : PW X (.BoolOp .Or [a] pos) tA:=by
  intro wh pins s σ H Q I h
  refine isTrue_or (thn (ha pins s σ H Q I h) fun c s1 e=>?_)
  cases c with
  | false=>exact isTrue_or_nil e
  | true=>exact e
theorem pw_and (ha : PT X a tA) (hb : PW X (.BoolOp .And (b :: rest) pos) tB') : PW X (.BoolOp .And (a :: b :: rest) pos) (tAnd tA tB'):=by
  intro wh pins s σ H Q I h
  refine isTrue_and (thn (ha pins s σ H _ I h) fun c s1 ⟨H1,I1,q1⟩=>?_)
  cases c with
  | true=>exact hb wh pins s1 σ H1 Q I1 q1
  | false=>exact ⟨H1,I1,q1⟩
theorem pw_or (ha : PT X a tA) (hb : PW X (.BoolOp .Or (b :: rest) pos) tB') : PW X (.BoolOp .Or (a :: b :: rest) pos) (tOr tA tB'):=by
  intro wh pins s σ H Q I h
  refine isTrue_or (thn (ha pins s σ H _ I h) fun c s1 ⟨H1,I1,q1⟩=>?_)
  cases c with
  | true=>exact ⟨H1,I1,q1⟩
  | false=>exact hb wh pins s1 σ H1 Q I1 q1
theorem pt_not (ha : PT X a tA) : PT X (.UnaryOp .Not a pos) (tNot tA):=by
  intro pins s σ H Q I h
  exact isTrue_not (ha pins s σ H (fun c H1=>Q (!c) H1) I h)
/-- .. as values (z4s) -/
def tAndV (ta tb : TE) : TE:=fun σ H Q=>ta σ H fun x H1=>∃ c,x = .bl c∧if c=true then tb σ H1 Q else Q (.bl false) H1
def tNotV (ta : TE) : TE:=fun σ H Q=>ta σ H fun x H1=>∃ c,x = .bl c∧Q (.bl (!c)) H1
theorem pe_one {op} {t : TE} (h : PE X a t) : PE X (.BoolOp op [a] pos) t:=fun pins s σ H Q I hw=>BoolOp_one (h pins s σ H Q I hw)
theorem pe_and (ha : PE X a ta) (hb : PE X (.BoolOp .And (b :: rest) pos) tb) : PE X (.BoolOp .And (a :: b :: rest) pos) (tAndV ta tb):=by
  intro pins s σ H Q I h
  refine BoolOp_and (thn (ha pins s σ H _ I h) fun v s1 ⟨x,H1,I1,r1,q1⟩=>?_)
  obtain ⟨c,rfl,q1⟩:=q1
  cases r1
  refine wpAny_truthy_bool ?_
  cases c with
  | true=>exact hb pins s1 σ H1 Q I1 q1
  | false=>exact ⟨.bl false,H1,I1,rfl,q1⟩
theorem pe_not (ha : PE X a ta) : PE X (.UnaryOp .Not a pos) (tNotV ta):=by
  intro pins s σ H Q I h
  refine UnaryOp_ (thn (ha pins s σ H _ I h) fun v s1 ⟨x,H1,I1,r1,q1⟩=>?_)
  obtain ⟨c,rfl,q1⟩:=q1
  cases r1
  exact not_of (wpAny_truthy_bool ⟨.bl (!c),H1,I1,rfl,q1⟩)
end
end L2

namespace L2
open PySem PySem.Spec PyProof.Rows

/-! ### a list,a tuple that is read: tracked,frozen,or an object of the module -/
def SqL (K : PySem.W.Frag) (H : Hp) (a : Addr) (xs : List V) : Prop:=
  Rd H a (.lst xs) ∨
    ∃ (o : Obj) (its : Array Value) (n : Nat),K.lookup a=some o∧o.cls = .type "list" ∧ o.dict=none∧o.data = .seq its n∧its.size≤sizeLine∧Vals xs its.toList
def SqT (K : PySem.W.Frag) (H : Hp) (a : Addr) (xs : List V) : Prop:=
  Rd H a (.tup xs) ∨
    ∃ (o : Obj) (its : Array Value) (n : Nat),K.lookup a=some o∧(o.cls = .type "tuple" ∧ o.dict=none)∧o.data = .seq its n∧its.size≤sizeLine∧Vals xs its.toList
def absV : Value->Option V
  | .none=>some .non
  | .bool b=>some (.bl b)
  | .int i _=>some (.int i)
  | .str x _=>some (.str x)
  | .bytes b _=>some (.byt b)
  | .float b _=>some (.flt b)
  | .ref a=>some (.ref a)
  | .type n=>some (.ty n)
  | _=>none
theorem RelV.abs {x : V} {u : Value} (r : RelV x u) : absV u=some x:=by
  cases x with
  | non=>cases r; rfl
  | bl _=>cases r; rfl
  | int _=>obtain ⟨t,rfl⟩:=r; rfl
  | str _=>obtain ⟨t,rfl⟩:=r; rfl
  | byt _=>obtain ⟨t,rfl⟩:=r; rfl
  | flt _=>obtain ⟨t,rfl⟩:=r; rfl
  | ref _=>cases r; rfl
  | ty _=>cases r; rfl
theorem RelV.inj {x y : V} {u : Value} (r : RelV x u) (q : RelV y u) : x=y:=Option.some.inj (r.abs.symm.trans q.abs)
theorem Vals.inj : ∀ {xs ys : List V} {us : List Value},Vals xs us->Vals ys us->xs=ys
  | _,_,_,.nil,.nil=>rfl
  | _,_,_,.cons r t,.cons r' t'=>by rw [r.inj r',Vals.inj t t']
section
variable {X : Cx} {pins : List (Addr × Obj)} {σ : St} {H : Hp} {s : Shared} {a : Addr} {xs ys : List V}
theorem SqL.of {K : PySem.W.Frag} (h : H a=some (.lst xs)) : SqL K H a xs:=.inl (.inl h)
theorem SqT.of {K : PySem.W.Frag} (h : H a=some (.tup xs)) : SqT K H a xs:=.inl (.inl h)
theorem Inv.list (I : Inv X pins σ H s) (h : SqL X.K H a xs) : ∃ its : List Value,Vals xs its∧PlainL s.heap a its.toArray∧xs.length≤sizeLine:=by
  rcases h with h | ⟨o,its,n,hk,hc,hd,hs,hz,r⟩
  · obtain ⟨z,its,n,r,e⟩:=h.ok I.hok
    exact ⟨its,r,⟨_,n,e,rfl,rfl,rfl⟩,z⟩
  · refine ⟨its.toList,r,⟨o,n,I.kIn a o hk,hc,hd,by simpa using hs⟩,?_⟩
    have e:=r.length
    simp only [Array.length_toList] at e
    omega
theorem Inv.tuple (I : Inv X pins σ H s) (h : SqT X.K H a xs) : ∃ its : List Value,Vals xs its∧IsTup s.heap a its.toArray∧xs.length≤sizeLine:=by
  rcases h with h | ⟨o,its,n,hk,hc,hs,hz,r⟩
  · obtain ⟨z,its,r,p⟩:=h.ok I.hok
    exact ⟨its,r,p.is,z⟩
  · refine ⟨its.toList,r,⟨o,I.kIn a o hk,hc.1,n,by simpa using hs⟩,?_⟩
    have e:=r.length
    simp only [Array.length_toList] at e
    omega
theorem Inv.list_inj (I : Inv X pins σ H s) (h : SqL X.K H a xs) (h' : SqL X.K H a ys) : xs=ys:=by
  obtain ⟨its,r,⟨o,n,e,_,_,d⟩,_⟩:=I.list h
  obtain ⟨its',r',⟨o',n',e',_,_,d'⟩,_⟩:=I.list h'
  rw [e] at e'; cases e'
  rw [d] at d'
  injection d' with d1 _
  have : its=its':=by simpa using congrArg Array.toList d1
  subst this
  exact r.inj r'
theorem Inv.tuple_inj (I : Inv X pins σ H s) (h : SqT X.K H a xs) (h' : SqT X.K H a ys) : xs=ys:=by
  obtain ⟨its,r,⟨o,e,_,n,d⟩,_⟩:=I.tuple h
  obtain ⟨its',r',⟨o',e',_,n',d'⟩,_⟩:=I.tuple h'
  rw [e] at e'; cases e'
  rw [d] at d'
  injection d' with d1 _
  have : its=its':=by simpa using congrArg Array.toList d1
  subst this
  exact r.inj r'
end

/-! ### another wish about exceptions -/
abbrev Cx.wish (X : Cx) (E : Value->Shared->Prop) : Cx:={ X with xe:=E }
/-- no exception leaves -/
abbrev Cx.nox (X : Cx) : Cx:=X.wish fun _ _=>False
theorem Cx.Ok.wish {X : Cx} (ok : X.Ok) (E : Value->Shared->Prop) : (X.wish E).Ok:=
  ⟨ok.mod,ok.kind,ok.glob,ok.blt,ok.above,ok.inj,ok.has,ok.cab,ok.hd,ok.frames,ok.stk,ok.exf,ok.bs,ok.bsz,ok.noex,ok.exfs,ok.funs,ok.frf⟩
theorem Cx.Ok.unwish {X : Cx} {E : Value->Shared->Prop} (ok : (X.wish E).Ok) : X.Ok:=
  ⟨ok.mod,ok.kind,ok.glob,ok.blt,ok.above,ok.inj,ok.has,ok.cab,ok.hd,ok.frames,ok.stk,ok.exf,ok.bs,ok.bsz,ok.noex,ok.exfs,ok.funs,ok.frf⟩
section
variable {X : Cx} {pins : List (Addr × Obj)} {σ : St} {H : Hp} {s : Shared} {E : Value->Shared->Prop}
theorem Inv.wish (I : Inv X pins σ H s) (E : Value->Shared->Prop) : Inv (X.wish E) pins σ H s:=⟨I.ok.wish E,I.os,I.bare,I.base,I.loc,I.cell,I.free,I.freeC,I.pin,I.hok,I.len⟩
theorem Inv.unwish (I : Inv (X.wish E) pins σ H s) : Inv X pins σ H s:=⟨I.ok.unwish,I.os,I.bare,I.base,I.loc,I.cell,I.free,I.freeC,I.pin,I.hok,I.len⟩
theorem SP.unwish {D : Ends} {f : Flow} {s' : Shared} (h : SP (X.wish E) pins D f s') : SP X pins D f s':=by
  cases f with
  | next=>obtain ⟨σ',H',I,q⟩:=h; exact ⟨σ',H',I.unwish,q⟩
  | brk=>obtain ⟨σ',H',I,q⟩:=h; exact ⟨σ',H',I.unwish,q⟩
  | cont=>obtain ⟨σ',H',I,q⟩:=h; exact ⟨σ',H',I.unwish,q⟩
  | ret u=>obtain ⟨v,σ',H',I,r,q⟩:=h; exact ⟨v,σ',H',I.unwish,r,q⟩
theorem PE.nox {e : Expr} {t : TE} (h : PE X.nox e t) : PE X e t:=fun pins s σ H Q I hw=>
  wpAny_mono (h pins s σ H Q (I.wish _) hw) (fun _ _ ⟨v,H',I',r,q⟩=>⟨v,H',I'.unwish,r,q⟩) fun _ _ z=>False.elim z
theorem PT.nox {e : Expr} {t : TT} (h : PT X.nox e t) : PT X e t:=fun pins s σ H Q I hw=>
  wpAny_mono (h pins s σ H Q (I.wish _) hw) (fun _ _ ⟨H',I',q⟩=>⟨H',I'.unwish,q⟩) fun _ _ z=>False.elim z
theorem PSs.nox {st : List Stmt} {t : TS} (h : PSs X.nox st t) : PSs X st t:=fun pins s σ H D I hw=>
  wpAny_mono (h pins s σ H D (I.wish _) hw) (fun _ _ q=>q.unwish) fun _ _ z=>False.elim z
end

/-! ### blocks and small statements -/
section
variable {X : Cx} {st : Stmt} {rest : List Stmt} {t u : TS} {e : Expr} {te : TE} {pos : Pos}
def tNext : TS:=fun D σ H=>D.nx σ H
def tSeq (t u : TS) : TS:=fun D σ H=>t { D with nx:=u D } σ H
theorem pss_nil : PSs X [] tNext:=fun _ _ σ H _ I h=>wpAny_execs_nil ⟨σ,H,I,h⟩
theorem y0J (h1 : PS X st t) (h2 : PSs X rest u) : PSs X (st :: rest) (tSeq t u):=by
  intro pins s σ H D I h
  refine wpAny_execs_cons (thn (h1 pins s σ H { D with nx:=u D } I h) fun f s1 q=>?_)
  cases f with
  | next=>
    obtain ⟨σ',H',I',q⟩:=q
    exact h2 pins s1 σ' H' D I' q
  | ret v=>exact q
  | brk=>exact q
  | cont=>exact q
theorem pss_one (h1 : PS X st t) : PSs X [st] t:=by
  intro pins s σ H D I h
  refine wpAny_execs_cons (thn (h1 pins s σ H D I h) fun f s1 q=>?_)
  cases f with
  | next=>exact wpAny_execs_nil q
  | ret v=>exact q
  | brk=>exact q
  | cont=>exact q
/-- in a def's body nothing is shown -/
theorem Inv.quiet {pins : List (Addr × Obj)} {σ : St} {H : Hp} {s : Shared} (I : Inv X pins σ H s) : interactive X.env=false:=by simp [interactive,I.ok.kind]
/-- an expression whose value is dropped -/
def y6s (te : TE) : TS:=fun D σ H=>te σ H fun _ H1=>D.nx σ H1
theorem z5c (he : PE X e te) (hs : swapsWith e none pos.line X.env=pure false:=by rfl) : PS X (.Expr e pos) (y6s te):=by
  intro pins s σ H D I h
  exact wpAny_Expr_any (thn (he pins s σ H _ I h) fun v s1 ⟨x,H1,I1,r1,q1⟩=>⟨σ,H1,I1,q1⟩) I.quiet hs
def tRet (te : TE) : TS:=fun D σ H=>te σ H D.rt
theorem z7K (he : PE X e te) : PS X (.Return (some e) pos) (tRet te):=by
  intro pins s σ H D I h
  exact wpAny_Return_some (thn (he pins s σ H _ I h) fun v s1 ⟨x,H1,I1,r1,q1⟩=>⟨x,σ,H1,I1,r1,q1⟩)
def tIfS (c : TT) (t u : TS) : TS:=fun D σ H=>c σ H fun b H1=>if b=true then t D σ H1 else u D σ H1
theorem ps_if {c : Expr} {a b : List Stmt} {tc : TT} (hc : PT X c tc) (ha : PSs X a t) (hb : PSs X b u) : PS X (.If c a b pos) (tIfS tc t u):=by
  intro pins s σ H D I h
  refine wpAny_If (thn (hc pins s σ H _ I h) fun d s1 ⟨H1,I1,q1⟩=>?_)
  cases d with
  | true=>exact ha pins s1 σ H1 D I1 q1
  | false=>exact hb pins s1 σ H1 D I1 q1
end

/-! ### targets -/
abbrev TG:=V->St->Hp->(St->Hp->Prop)->Prop
abbrev TGs:=List V->St->Hp->(St->Hp->Prop)->Prop
def PG (X : Cx) (target : Expr) (t : TG) : Prop:=
  ∀ (pins : List (Addr × Obj)) (s : Shared) (σ : St) (H : Hp) (v : V) (u : Value) (Q : St->Hp->Prop),Inv X pins σ H s->RelV v u->t v σ H Q →
    wpAny (model X.prog X.w) X.A (assign target X.env u) (fun _ s'=>∃ σ' H',Inv X pins σ' H' s'∧Q σ' H') X.xe s
/-- several targets,one after another -/
def PGs (X : Cx) (ts : List Expr) (t : TGs) : Prop:=
  ∀ (pins : List (Addr × Obj)) (s : Shared) (σ : St) (H : Hp) (vs : List V) (us : List Value) (Q : St->Hp->Prop),Inv X pins σ H s->Vals vs us->t vs σ H Q →
    wpAny (model X.prog X.w) X.A (assignInOrder ((assignEach ts X.env).map (·.2)) us) (fun _ s'=>∃ σ' H',Inv X pins σ' H' s'∧Q σ' H') X.xe s
/-- o[i]=v,by values -/
abbrev TSet:=V->V->V->Hp->(Hp->Prop)->Prop
def PSet (X : Cx) (t : TSet) : Prop:=
  ∀ (pins : List (Addr × Obj)) (s : Shared) (σ : St) (H : Hp) (o i v : V) (ov iv u : Value) (Q : Hp->Prop),Inv X pins σ H s->RelV o ov->RelV i iv->RelV v u->t o i v H Q →
    wpAny (model X.prog X.w) X.A (setItem ov iv u) (fun _ s'=>∃ H',Inv X pins σ H' s'∧Q H') X.xe s
section
variable {X : Cx} {pos : Pos}
def z3u (i : Nat) : TG:=fun v σ H Q=>Q (σ.set i (some v)) H
theorem z0v {i : Nat} {x : Str} (hN : X.N.Nodup) (hi : X.N[i]? = some x) (hx : Loc X.env.scope x) (hf : X.fn x=true∨X.env.scope.names.lookup x=some .local:=by first | exact .inl rfl | exact .inr rfl | assumption) : PG X (.Name x pos) (z3u i):=by
  intro pins s σ H v u Q I r h
  exact wpAny_assign_Name (z6A I hN hi hx r (fun s' I'=>⟨_,H,I',h⟩) hf)
def gNil : TGs:=fun vs σ H Q=>vs=[]∧Q σ H
def gCons (t : TG) (u : TGs) : TGs:=fun vs σ H Q=>∃ v r,vs=v :: r∧t v σ H fun σ' H'=>u r σ' H' Q
theorem pgs_nil : PGs X [] gNil:=by
  intro pins s σ H vs us Q I r h
  obtain ⟨e,h⟩:=h
  subst e
  cases r
  exact assignInOrder_nil ⟨σ,H,I,h⟩
theorem y0h {e : Expr} {es : List Expr} {t : TG} {u : TGs} (h1 : PG X e t) (h2 : PGs X es u)
    (hs : (assignEach (e :: es) X.env).map (·.2)=assign e X.env :: (assignEach es X.env).map (·.2):=by rfl) : PGs X (e :: es) (gCons t u):=by
  intro pins s σ H vs us Q I r h
  obtain ⟨v,vr,e1,h⟩:=h
  subst e1
  cases r with
  | cons r rr=>
    rw [hs]
    refine assignInOrder_cons (thn (h1 pins s σ H _ _ _ I r h) fun _ s1 ⟨σ1,H1,I1,q1⟩=>?_)
    exact h2 pins s1 σ1 H1 _ _ Q I1 rr q1
/-- (a,b,..)=a tuple of that length -/
def gTup (K : PySem.W.Frag) (n : Nat) (t : TGs) : TG:=fun v σ H Q=>∃ a xs,v = .ref a∧SqT K H a xs∧xs.length=n∧t xs σ H Q
theorem pg_tup {es : List Expr} {k : Nat} {t : TGs} {n : Nat} (hc : X.calm=true) (h : PGs X es t)
    (hn : (assignEach es X.env).length=n:=by rfl) (hst : (assignEach es X.env).findIdx? (·.1)=none:=by rfl) : PG X (.Tuple es k pos) (gTup X.K n t):=by
  intro pins s σ H v u Q I r hw
  obtain ⟨a,xs,e1,hq,hl,hw⟩:=hw
  subst e1
  cases r
  obtain ⟨its,rv,ht,hz⟩:=I.tuple hq
  refine assign_Tuple_tuple (I.ok.hd hc) ht (by simp [hn,← hl,rv.length]) hst fun h' hx=>?_
  have I1 : Inv X pins σ H { s with heap:=h' }:=I.kept (t':=s.toks) fun b o e=>hx b o (Nat.ne_of_lt (Heap.lt_size e)) e
  exact h pins _ σ H xs _ Q I1 (by simpa using rv) hw
/-- o[i] = .. -/
def gSub (to ti : TE) (t : TSet) : TG:=fun v σ H Q=>to σ H fun o H1=>ti σ H1 fun i H2=>t o i v H2 fun H3=>Q σ H3
theorem pg_sub {o i : Expr} {to ti : TE} {t : TSet} (ho : PE X o to) (hi : PE X i ti) (hs : PSet X t)
    (ha : ∀ v,assign (.Subscript o i pos) X.env v=(do
      let ov ← holding [v] (eval o X.env)
      let iv ← holding [v,ov] (eval i X.env)
      standAt pos
      holding [v,ov,iv] (setItem ov iv v)
      release [v,ov,iv] []):=by intro _; rfl) : PG X (.Subscript o i pos) (gSub to ti t):=by
  intro pins s σ H v u Q I r h
  rw [ha]
  refine wpAny_bind (wpAny_holding (thn (ho pins s σ H _ I h) fun ov s1 ⟨x,H1,I1,r1,q1⟩=>?_))
  refine wpAny_bind (wpAny_holding (thn (hi pins s1 σ H1 _ I1 q1) fun iv s2 ⟨y,H2,I2,r2,q2⟩=>?_))
  refine wpAny_bind (wpAny_standAt (wpAny_bind (wpAny_holding (thn (hs pins s2 σ H2 x y v ov iv u _ I2 r1 r2 r q2) fun _ s3 ⟨H3,I3,q3⟩=>?_))))
  exact wpAny_release ⟨σ,H3,I3,q3⟩
/-- target=value -/
def tAsg (te : TE) (g : TG) : TS:=fun D σ H=>te σ H fun x H1=>g x σ H1 D.nx
theorem ps_asg {tg e : Expr} {te : TE} {g : TG} (he : PE X e te) (hg : PG X tg g) (hs : swapsWithSole [tg] e pos.line X.env=pure false:=by rfl) (hw : swappedStores [tg] e X.env=pure none:=by rfl)
    (h1 : (assignEach [tg] X.env).map (·.2)=[assign tg X.env]:=by rfl) : PS X (.Assign [tg] e pos) (tAsg te g):=by
  intro pins s σ H D I h
  refine wpAny_Assign_stores (thn (he pins s σ H _ I h) fun v s1 ⟨x,H1,I1,r1,q1⟩=>?_) hs hw
  rw [h1]
  exact thn (hg pins s1 σ H1 x v _ I1 r1 q1) fun _ s2 q=>q
/-- name=value -/
theorem ps_set {i : Nat} {x : Str} {e : Expr} {te : TE} {pos' : Pos} (hN : X.N.Nodup) (hi : X.N[i]? = some x) (hx : Loc X.env.scope x) (he : PE X e te) (hs : swapsWith e (some (.Name x pos')) pos.line X.env=pure false:=by rfl) (hf : X.fn x=true∨X.env.scope.names.lookup x=some .local:=by first | exact .inl rfl | exact .inr rfl | assumption) :
    PS X (.Assign [.Name x pos'] e pos) (tAsg te (z3u i)):=by
  intro pins s σ H D I h
  refine wpAny_Assign_Name (thn (he pins s σ H _ I h) fun v s1 ⟨y,H1,I1,r1,q1⟩=>?_) hs
  exact z6A I1 hN hi hx r1 (fun s2 I2=>⟨_,H1,I2,q1⟩) hf
end

/-! ### while -/
section
variable {X : Cx} {pos : Pos}
/-- the invariant W with its measure -/
def tWhile (c : TT) (tb : TS) : TS:=fun D σ H=>∃ W : Nat->St->Hp->Prop,(∃ m,W m σ H)∧∀ m σ H,W m σ H →
  c σ H fun b H1=>if b=true then ∃ N : St->Hp->Prop,(∀ σ' H',N σ' H'->∃ m',m' < m∧W m' σ' H')∧tb { D with nx:=N,ct:=N,bk:=D.nx } σ H1 else D.nx σ H1
theorem y6p {c : Expr} {body : List Stmt} {tc : TT} {tb : TS} (hp : PassesOwn (model X.prog X.w) X.A X.env X.xe) (hc : PT X c tc) (hb : PSs X body tb) : PS X (.While c body [] pos) (tWhile tc tb):=by
  intro pins s σ H D I h
  obtain ⟨W,⟨m0,w0⟩,turn⟩:=h
  refine wpAny_While (codeAny_whileLoop (fun n s'=>∃ σ' H',Inv X pins σ' H' s'∧W n σ' H') ?_ m0 ⟨σ,H,I,w0⟩)
  rintro n s1 ⟨σ1,H1,I1,w1⟩
  refine wpAny_passesOwn hp (thn (hc pins s1 σ1 H1 _ I1 (turn n σ1 H1 w1)) fun b s2 ⟨H2,I2,q2⟩=>?_)
  cases b with
  | true=>
    obtain ⟨N,hN,q2⟩:=q2
    rw [if_pos rfl]
    refine wpAny_passesOwn hp (thn (hb pins s2 σ1 H2 _ I2 q2) fun f s3 q3=>?_)
    cases f with
    | next=>
      obtain ⟨σ3,H3,I3,n3⟩:=q3
      obtain ⟨m',hm,w3⟩:=hN σ3 H3 n3
      exact ⟨m',hm,σ3,H3,I3,w3⟩
    | cont=>
      obtain ⟨σ3,H3,I3,n3⟩:=q3
      obtain ⟨m',hm,w3⟩:=hN σ3 H3 n3
      exact ⟨m',hm,σ3,H3,I3,w3⟩
    | brk=>exact q3
    | ret v=>exact q3
  | false=>
    rw [if_neg Bool.false_ne_true]
    exact wpAny_execs_nil ⟨σ1,H2,I2,q2⟩
end

/-! ### what a loop or a comprehension walks -/
/-- at turn i: it yields x (the heap may grow),or it stops -/
structure It where
  go : Nat->Hp->Prop
  yld : Nat->Hp->V->Hp->Prop
  stop : Nat->Hp->Prop
/-- the iterator's own objects may turn: they are not the frame's,not pinned,younger than the entry (or a comprehension's own) -/
def z8N (X : Cx) (pins : List (Addr × Obj)) (H : Hp) (b : Addr) : Prop:=
  H b=none∧b≠X.env.locals∧b ∉ X.fs∧(b∈X.ex∨X.s₀.heap.objs.size≤b)∧(∀ x c,X.env.cells.lookup x=some c->c≠b)∧∀ p∈X.pn ++ pins,p.1≠b
theorem Inv.fpOk {X : Cx} {pins : List (Addr × Obj)} {σ : St} {H H' : Hp} {s : Shared} {b : Addr} (I : Inv X pins σ H s) (hb : s.heap.objs.size≤b) (hn : H' b=none) : z8N X pins H' b:=by
  refine ⟨hn,Nat.ne_of_gt (Nat.lt_of_lt_of_le I.lt hb),I.nofs hb,.inr (Nat.le_trans I.sz hb),fun x c e z=>?_,fun p hp z=>?_⟩
  · obtain ⟨v,q⟩:=I.cell x c e
    exact absurd (Nat.lt_of_lt_of_le q.lt (by rw [z]; exact hb)) (Nat.lt_irrefl _)
  · exact absurd (Nat.lt_of_lt_of_le (Heap.lt_size (I.pin p hp).1) (by rw [z]; exact hb)) (Nat.lt_irrefl _)
structure Turn (P : Program) (w : World) (K : PySem.W.Frag) (tg : Expr) (J : It) (fp : List Addr) (it : Addr) (tn : Nat->Heap->Prop) : Prop where
  mem : it∈fp
  obj : ∀ i h,tn i h->∀ b∈fp,∃ o,h.get? b=some o∧∀ v,o.data≠.cell v
  keep : ∀ i h h',tn i h->(∀ b∈fp,∀ o,h.get? b=some o->h'.get? b=some o)->tn i h'
  item : ∀ (X : Cx),X.prog=P->X.w=w->X.K=K->X.calm=true->∀ (i : Nat) (pins : List (Addr × Obj)) (s : Shared) (σ : St) (H : Hp) (E : Value->Shared->Prop),Inv X pins σ H s->(∀ b∈fp,z8N X pins H b)->tn i s.heap->J.go i H →
    wpAny (model P w) X.A (pyNext (.ref it)) (fun r s1=>∃ u,r=some u ∧
      wpAny (model P w) X.A (letOwnedTupleGo tg (.ref it) u) (fun _ s2=>∃ x H',Inv X pins σ H' s2∧RelV x u∧J.yld i H x H'∧tn (i + 1) s2.heap∧∀ b∈fp,H' b=none) E s1) E s
  done : ∀ (X : Cx),X.prog=P->X.w=w->X.K=K->X.calm=true->∀ (i : Nat) (pins : List (Addr × Obj)) (s : Shared) (σ : St) (H : Hp) (E : Value->Shared->Prop),Inv X pins σ H s->(∀ b∈fp,z8N X pins H b)->tn i s.heap->J.stop i H →
    wpAny (model P w) X.A (pyNext (.ref it)) (fun r s1=>r=none∧Inv X pins σ H s1) E s
  self : ∀ (A : Around) (i : Nat) (s : Shared) (Q : Value->Shared->Prop) (E : Value->Shared->Prop),tn i s.heap->Q (.ref it) s->wpAny (model P w) A (pyIter (.ref it)) Q E s
abbrev TI:=St->Hp->(It->Hp->Prop)->Prop
/-- an iterator has come -/
def PIE (X : Cx) (pins : List (Addr × Obj)) (σ : St) (tg : Expr) (R : It->Hp->Prop) (itv : Value) (s2 : Shared) : Prop:=
  ∃ (it : Addr) (fp : List Addr) (tn : Nat->Heap->Prop) (J : It) (H' : Hp),itv = .ref it∧Inv X pins σ H' s2∧Turn X.prog X.w X.K tg J fp it tn∧tn 0 s2.heap∧(∀ b∈fp,z8N X pins H' b)∧R J H'
def PI (X : Cx) (tg iter : Expr) (wi : TI) : Prop:=
  ∀ (pins : List (Addr × Obj)) (s : Shared) (σ : St) (H : Hp) (R : It->Hp->Prop),Inv X pins σ H s->wi σ H R →
    wpAny (model X.prog X.w) X.A (eval iter X.env) (fun v s1=>wpAny (model X.prog X.w) X.A (pyIter v) (PIE X pins σ tg R) X.xe s1) X.xe s

/-- the step ahead of the store is nothing for an iterator that keeps no tuple -/
theorem go_of {M : Model} {A : Around} {E : Value->Shared->Prop} {s : Shared} {tg : Expr} {it : Addr} {u : Value} {o : Obj} {n : String} {vs : Array Value} {Q : Unit->Shared->Prop} (ho : s.heap.get? it=some o) (hc : o.cls = .type n) (hd : o.data = .fields vs)
    (hn : ["enumerate", "zip", "dict_itemiterator", "dict_reverseitemiterator", "odict_iterator", "itertools.zip_longest", "itertools.pairwise"].contains n=false) (hQ : Q () s) : wpAny M A (letOwnedTupleGo tg (.ref it) u) Q E s:=by
  unfold letOwnedTupleGo
  cases tg <;> first
    | exact wpAny_pure hQ
    | (cases u <;> first
        | exact wpAny_pure hQ
        | (refine wpAny_bind (wpAny_load ho ?_)
           rw [hc,hd]
           show wpAny M A (if (["enumerate", "zip", "dict_itemiterator", "dict_reverseitemiterator", "odict_iterator", "itertools.zip_longest", "itertools.pairwise"].contains n && vs[0]? == some (rawInt _))=true then _ else _) Q E s
           rw [if_neg (by intro h; rw [hn,Bool.false_and] at h; cases h)]
           exact wpAny_pure hQ))

/-- the list at a,as it stands at each turn (a loop may append to it) -/
def Itl (K : PySem.W.Frag) (a : Addr) : It:=
  ⟨fun i H=>∃ xs x,SqL K H a xs∧xs[i]? = some x,fun i H x H'=>H'=H∧∀ xs,SqL K H a xs->xs[i]? = some x,fun i H=>∃ xs,SqL K H a xs∧xs.length≤i⟩
def Itt (K : PySem.W.Frag) (a : Addr) : It:=
  ⟨fun i H=>∃ xs x,SqT K H a xs∧xs[i]? = some x,fun i H x H'=>H'=H∧∀ xs,SqT K H a xs->xs[i]? = some x,fun i H=>∃ xs,SqT K H a xs∧xs.length≤i⟩
/-- lo,lo + 1,.. (n of them) -/
def Itr (lo : Int) (n : Nat) : It:=⟨fun i _=>i < n,fun i H x H'=>H'=H∧x = .int (lo + i),fun i _=>n≤i⟩
theorem y5d {P : Program} {w : World} {K : PySem.W.Frag} {tg : Expr} (a it : Addr) : Turn P w K tg (Itl K a) [it] it (fun i h=>h.IsListIter it a i) where
  mem:=by simp
  obj:=fun i h st b hb=>by
    have e : b=it:=by simpa using hb
    subst e
    obtain ⟨o,e,c,d⟩:=st
    exact ⟨o,e,fun v z=>by rw [d] at z; cases z⟩
  keep:=fun i h h' st k=>st.at fun o e=>k it (by simp) o e
  item:=by
    intro X hP hw hK hc i pins s σ H E I hf st hg
    subst hP hw hK
    obtain ⟨xs,x,hq,hx⟩:=hg
    obtain ⟨its,rv,p,hz⟩:=I.list hq
    obtain ⟨u,hu,ru⟩:=rv.get hx
    obtain ⟨f0,f1,f2,f3,f4,f5⟩:=hf it (by simp)
    refine wpAny_pyNext_list_item st p.isList (x:=u) (by simpa using hu) fun h' st' sb=>?_
    have I1 : Inv X pins σ H { s with heap:=h' }:=I.turned (t':=s.toks) (fun b o hb e=>(sb.2 b hb).trans e) f0 f1 f3 f4 f5
    obtain ⟨o,e,c,d⟩:=id st'
    exact ⟨u,rfl,go_of (s:={ s with heap:=h' }) e c d (by decide) ⟨x,H,I1,ru,⟨rfl,fun ys hy=>by rw [I.list_inj hy hq]; exact hx⟩,st',fun b hb=>(hf b hb).1⟩⟩
  done:=by
    intro X hP hw hK hc i pins s σ H E I hf st hg
    subst hP hw hK
    obtain ⟨xs,hq,hx⟩:=hg
    obtain ⟨its,rv,p,hz⟩:=I.list hq
    obtain ⟨f0,f1,f2,f3,f4,f5⟩:=hf it (by simp)
    have hl:=rv.length
    exact wpAny_pyNext_list_end (I.ok.hd hc) st p.isList (by simp; omega) fun h' eb=>⟨rfl,I.turned (t':=s.toks) (fun b o hb e=>eb b o hb e) f0 f1 f3 f4 f5⟩
  self:=fun _ _ _ _ _ st h=>wpAny_pyIter_listiter st h
theorem y0X {P : Program} {w : World} {K : PySem.W.Frag} {tg : Expr} (a it : Addr) : Turn P w K tg (Itt K a) [it] it (fun i h=>h.IsTupleIter it a i) where
  mem:=by simp
  obj:=fun i h st b hb=>by
    have e : b=it:=by simpa using hb
    subst e
    obtain ⟨o,e,c,d⟩:=st
    exact ⟨o,e,fun v z=>by rw [d] at z; cases z⟩
  keep:=fun i h h' st k=>st.at fun o e=>k it (by simp) o e
  item:=by
    intro X hP hw hK hc i pins s σ H E I hf st hg
    subst hP hw hK
    obtain ⟨xs,x,hq,hx⟩:=hg
    obtain ⟨its,rv,p,hz⟩:=I.tuple hq
    obtain ⟨u,hu,ru⟩:=rv.get hx
    obtain ⟨f0,f1,f2,f3,f4,f5⟩:=hf it (by simp)
    refine wpAny_pyNext_tuple_item st (show s.heap.IsTuple a its.toArray from p) (x:=u) (by simpa using hu) fun h' st' sb=>?_
    have I1 : Inv X pins σ H { s with heap:=h' }:=I.turned (t':=s.toks) (fun b o hb e=>(sb.2 b hb).trans e) f0 f1 f3 f4 f5
    obtain ⟨o,e,c,d⟩:=id st'
    exact ⟨u,rfl,go_of (s:={ s with heap:=h' }) e c d (by decide) ⟨x,H,I1,ru,⟨rfl,fun ys hy=>by rw [I.tuple_inj hy hq]; exact hx⟩,st',fun b hb=>(hf b hb).1⟩⟩
  done:=by
    intro X hP hw hK hc i pins s σ H E I hf st hg
    subst hP hw hK
    obtain ⟨xs,hq,hx⟩:=hg
    obtain ⟨its,rv,p,hz⟩:=I.tuple hq
    obtain ⟨f0,f1,f2,f3,f4,f5⟩:=hf it (by simp)
    have hl:=rv.length
    exact wpAny_pyNext_tuple_end (I.ok.hd hc) st (show s.heap.IsTuple a its.toArray from p) (by simp; omega) fun h' eb=>⟨rfl,I.turned (t':=s.toks) (fun b o hb e=>eb b o hb e) f0 f1 f3 f4 f5⟩
  self:=fun _ _ _ _ _ st h=>wpAny_pyIter_tupleiter st h
theorem y0K {P : Program} {w : World} {K : PySem.W.Frag} {tg : Expr} (it : Addr) (lo : Int) (n : Nat) : Turn P w K tg (Itr lo n) [it] it (fun i h=>IsRangeIter h it (lo + (i : Nat) * 1) ((n : Int) - (i : Nat)) 1) where
  mem:=by simp
  obj:=fun i h st b hb=>by
    have e : b=it:=by simpa using hb
    subst e
    exact ⟨_,st,fun v z=>by
      have z' : Data.fields _=Data.cell v:=z
      cases z'⟩
  keep:=fun i h h' st k=>k it (by simp) _ st
  item:=by
    intro X hP hw hK hc i pins s σ H E I hf st hg
    subst hP hw hK
    obtain ⟨f0,f1,f2,f3,f4,f5⟩:=hf it (by simp)
    have W:=Walks.range (prog:=X.prog) (w:=X.w) (I.ok.hd hc) it lo 1 n
    refine W.item i s _ _ hg st fun v h' tk hv st' kk=>?_
    obtain ⟨t,rfl⟩:=hv
    have I1 : Inv X pins σ H { s with heap:=h',toks:=tk }:=I.turned (fun b o hb e=>kk b o (by simpa using hb) e) f0 f1 f3 f4 f5
    refine ⟨_,rfl,go_of (s:={ s with heap:=h',toks:=tk }) (n := "range_iterator") st' rfl rfl (by decide) ⟨.int (lo + i),H,I1,⟨t,?_⟩,⟨rfl,rfl⟩,st',fun b hb=>(hf b hb).1⟩⟩
    rw [Int.mul_one]
  done:=by
    intro X hP hw hK hc i pins s σ H E I hf st hg
    subst hP hw hK
    obtain ⟨f0,f1,f2,f3,f4,f5⟩:=hf it (by simp)
    exact wpAny_pyNext_range_end (I.ok.hd hc) st (by have : n≤i:=hg; omega) fun h' eb=>⟨rfl,I.turned (t':=s.toks) (fun b o hb e=>eb b o hb e) f0 f1 f3 f4 f5⟩
  self:=fun _ _ _ _ _ st h=>wpAny_pyIter_rangeiter st h
end L2

namespace L2
open PySem PySem.Spec PyProof.Rows
section
variable {X : Cx} {tg : Expr}
/-- a range object just made,walked -/
theorem z9l {pins : List (Addr × Obj)} {σ : St} {H : Hp} {s : Shared} {R : It->Hp->Prop} {E : Value->Shared->Prop} {lo hi : Int} {t u v : Tok} {tk : Nat} (I : Inv X pins σ H s) (h1 : -(2 ^ 62)≤lo) (h2 : lo < 2 ^ 62) (h3 : -(2 ^ 62)≤hi) (h4 : hi < 2 ^ 62)
    (q : R (Itr lo (hi - lo).toNat) H) : wpAny (model X.prog X.w) X.A (pyIter (.ref s.heap.objs.size)) (PIE X pins σ tg R) E { s with heap:=s.heap.push { cls:=.type "range",data:=.fields #[.int lo t,.int hi u,.int 1 v] },toks:=tk }:=by
  refine wpAny_pyIter_range (IsRange.new ..) (small_one h1 h2 h3 h4) ?_
  have I1 : Inv X pins σ H { s with heap:=s.heap.push { cls:=.type "range",data:=.fields #[.int lo t,.int hi u,.int 1 v] },toks:=tk }:=I.kept fun b o e=>Heap.get?_push_of_some _ e
  refine ⟨(s.heap.push { cls:=.type "range",data:=.fields #[.int lo t,.int hi u,.int 1 v] }).objs.size,[(s.heap.push { cls:=.type "range",data:=.fields #[.int lo t,.int hi u,.int 1 v] }).objs.size],_,_,H,rfl,
    I1.kept (t':=tk) fun b o e=>Heap.get?_push_of_some _ e,y0K _ lo (hi - lo).toNat,?_,fun b hb=>?_,q⟩
  · have e1 : lo + ((0 : Nat) : Int) * 1=lo:=by simp
    have e2 : (((hi - lo).toNat : Nat) : Int) - ((0 : Nat) : Int)=Builtin.Range.rangeSize lo hi 1:=by rw [rangeSize_one]; split <;> omega
    show IsRangeIter _ _ (lo + ((0 : Nat) : Int) * 1) ((((hi - lo).toNat : Nat) : Int) - ((0 : Nat) : Int)) 1
    rw [e1,e2]
    exact Heap.get?_push_size _ rfl
  · have e : b=(s.heap.push { cls:=.type "range",data:=.fields #[.int lo t,.int hi u,.int 1 v] }).objs.size:=by simpa using hb
    subst e
    exact I1.fpOk (Nat.le_refl _) (I1.hok.fresh (Nat.le_refl _))
def iRng1 (ta : TA) : TI:=fun σ H R=>ta σ H fun vs H1=>∃ j : Int,vs=[.int j]∧-(2 ^ 62)≤j∧j < 2 ^ 62∧R (Itr 0 j.toNat) H1
def iRng2 (ta : TA) : TI:=fun σ H R=>ta σ H fun vs H1=>∃ i j : Int,vs=[.int i,.int j]∧(-(2 ^ 62)≤i∧i < 2 ^ 62∧-(2 ^ 62)≤j∧j < 2 ^ 62)∧R (Itr i (j - i).toNat) H1
theorem y2Q {a : Expr} {ta : TA} {p pos : Pos} (hg : Gl X "range") (hm : X.mg "range" = none) (ha : PA X [a] ta) (hs : starEach [a] X.env=[(false,eval a X.env)]:=by rfl) : PI X tg (.Call (.Name "range" p) [a] [] pos) (iRng1 ta):=by
  intro pins s σ H R I h
  refine Call_ (z4Y I hg hm boot_range (PyProof.Rows.callWith_type1 (thn (ha pos pins s σ H _ I h) fun us s1 ⟨vs,H1,I1,r1,q1⟩=>?_) hs rfl))
  obtain ⟨j,e,q1,q2,q⟩:=q1
  subst e
  cases r1 with
  | cons r rr=>
    cases rr
    obtain ⟨t,rfl⟩:=r
    exact call_range_1 (z9l I1 (by omega) (by omega) q1 q2 (by simpa using q))
theorem y4R {a b : Expr} {ta : TA} {p pos : Pos} (hg : Gl X "range") (hm : X.mg "range" = none) (ha : PA X [a,b] ta) (hs : starEach [a,b] X.env=[(false,eval a X.env),(false,eval b X.env)]:=by rfl) (hs2 : starEach [b] X.env=[(false,eval b X.env)]:=by rfl) :
    PI X tg (.Call (.Name "range" p) [a,b] [] pos) (iRng2 ta):=by
  intro pins s σ H R I h
  refine Call_ (z4Y I hg hm boot_range (PyProof.Rows.callWith_type1 (thn (ha pos pins s σ H _ I h) fun us s1 ⟨vs,H1,I1,r1,q1⟩=>?_) (by rw [hs,hs2]) (by rw [hs2]; rfl)))
  obtain ⟨i,j,e,⟨q1,q2,q3,q4⟩,q⟩:=q1
  subst e
  cases r1 with
  | cons r rr=>
    cases rr with
    | cons r' rr=>
      cases rr
      obtain ⟨t,rfl⟩:=r
      obtain ⟨t',rfl⟩:=r'
      exact call_range_2 (z9l I1 q1 q2 q3 q4 q)

/-! ### for -/
/-- W: the invariant by the turn and a measure; N: what the body is to reach -/
def tFor (wi : TI) (g : TG) (tb : TS) : TS:=fun D σ H=>wi σ H fun J H1=>∃ W : Nat->Nat->St->Hp->Prop,(∃ m,W 0 m σ H1)∧∀ i m σ H,W i m σ H →
  (J.stop i H∧D.nx σ H)∨(J.go i H∧∃ N : St->Hp->Prop,(∀ σ' H',N σ' H'->∃ m',m' < m∧W (i + 1) m' σ' H')∧∀ x H',J.yld i H x H'->g x σ H' fun σ2 H2=>tb { D with nx:=N,ct:=N,bk:=D.nx } σ2 H2)
/-- the records at fp as they stand -/
def z8k (fp : List Addr) (h : Heap) : List (Addr × Obj):=fp.filterMap fun b=>(h.get? b).map fun o=>(b,o)
theorem z3o {fp : List Addr} {h : Heap} {b : Addr} {o : Obj} (hb : b∈fp) (e : h.get? b=some o) : (b,o)∈z8k fp h:=List.mem_filterMap.mpr ⟨b,hb,by rw [e]; rfl⟩
theorem y2G {fp : List Addr} {h : Heap} {p : Addr × Obj} (hp : p∈z8k fp h) : p.1∈fp∧h.get? p.1=some p.2:=by
  obtain ⟨b,hb,e⟩:=List.mem_filterMap.mp hp
  cases q : h.get? b with
  | none=>rw [q] at e; cases e
  | some o=>
    rw [q] at e
    have e' : (b,o)=p:=Option.some.inj e
    subst e'
    exact ⟨hb,q⟩
theorem Inv.pinned {pins : List (Addr × Obj)} {σ : St} {H : Hp} {s : Shared} {fp : List Addr} (I : Inv X pins σ H s) (hf : ∀ b∈fp,z8N X pins H b) (ho : ∀ b∈fp,∃ o,s.heap.get? b=some o∧∀ v,o.data≠.cell v) : Inv X (pins ++ z8k fp s.heap) σ H s:=
  I.pins_of fun p hp=>(List.mem_append.mp hp).elim (fun z=>I.pin p (List.mem_append_right _ z)) fun z=>by
    obtain ⟨hb,e⟩:=y2G z
    obtain ⟨f0,f1,f2,_⟩:=hf p.1 hb
    obtain ⟨o,e',d⟩:=ho p.1 hb
    rw [e] at e'; cases e'
    exact ⟨e,f0,f1,f2,d⟩
theorem Inv.unpinned {pins pl : List (Addr × Obj)} {σ : St} {H : Hp} {s : Shared} (I : Inv X (pins ++ pl) σ H s) : Inv X pins σ H s:=I.pins_of fun p hp=>I.pin p (List.mem_append_right _ (List.mem_append_left _ hp))
theorem ps_for {iter : Expr} {body : List Stmt} {wi : TI} {g : TG} {tb : TS} {pos : Pos} (hp : PassesOwn (model X.prog X.w) X.A X.env X.xe) (hc : X.calm=true) (hi : PI X tg iter wi) (hg : PG X tg g) (hb : PSs X body tb)
    (hs : ∀ x,foldedSetIterable iter X.env x=pure x:=by intro _; rfl) : PS X (.For tg iter body [] pos) (tFor wi g tb):=by
  intro pins s σ H D I h
  refine wpAny_For (thn (hi pins s σ H _ I h) fun v s1 h1=>thn h1 fun itv s2 h2=>?_) hs
  obtain ⟨it,fp,tn,J,H2,e,I2,T,st2,f2,W,⟨m0,w0⟩,turn⟩:=h2
  subst e
  -- what stays true of the iterator's objects through the loop
  have stat : ∀ {H' : Hp},(∀ b∈fp,H' b=none)->∀ b∈fp,z8N X pins H' b:=fun hn b hb=>⟨hn b hb,(f2 b hb).2⟩
  refine codeAny_forLoop_any (fun n s'=>∃ i σ' H',Inv X pins σ' H' s'∧tn i s'.heap∧(∀ b∈fp,H' b=none)∧W i n σ' H') ?_ m0 ⟨0,σ,H2,I2,st2,fun b hb=>(f2 b hb).1,w0⟩
  rintro n s3 ⟨i,σ3,H3,I3,st3,fr3,w3⟩
  rcases turn i n σ3 H3 w3 with ⟨stop,qn⟩ | ⟨go,N,hN,step⟩
  · refine wpAny_passesOwn hp (thn (T.done X rfl rfl rfl hc i pins s3 σ3 H3 X.xe I3 (stat fr3) st3 stop) fun r s4 ⟨hr,I4⟩=>?_)
    subst hr
    exact wpAny_execs_nil ⟨σ3,H3,I4,qn⟩
  · refine wpAny_passesOwn hp (thn (T.item X rfl rfl rfl hc i pins s3 σ3 H3 X.xe I3 (stat fr3) st3 go) fun r s4 ⟨u,hr,h4⟩=>?_)
    subst hr
    refine wpAny_passesOwn hp (thn h4 fun _ s5 ⟨x,H5,I5,r5,y5,st5,fr5⟩=>?_)
    have I5':=I5.pinned (stat fr5) (T.obj _ _ st5)
    refine wpAny_passesOwn hp (thn (hg _ s5 σ3 H5 x u _ I5' r5 (step x H5 y5)) fun _ s6 ⟨σ6,H6,I6,q6⟩=>?_)
    refine wpAny_passesOwn hp (thn (hb _ s6 σ6 H6 _ I6 q6) fun f s7 q7=>?_)
    have again : ∀ {σ7 : St} {H7 : Hp},Inv X (pins ++ z8k fp s5.heap) σ7 H7 s7->N σ7 H7->∃ m,m < n∧∃ i σ' H',Inv X pins σ' H' s7∧tn i s7.heap∧(∀ b∈fp,H' b=none)∧W i m σ' H':=fun {σ7 H7} I7 n7=>by
      obtain ⟨m',hm,w7⟩:=hN σ7 H7 n7
      refine ⟨m',hm,i + 1,σ7,H7,I7.unpinned,T.keep _ _ _ st5 fun b hb o e=>(I7.pin (b,o) (List.mem_append_right _ (List.mem_append_right _ (z3o hb e)))).1,fun b hb=>?_,w7⟩
      obtain ⟨o,e,d⟩:=T.obj _ _ st5 b hb
      exact (I7.pin (b,o) (List.mem_append_right _ (List.mem_append_right _ (z3o hb e)))).2.1
    cases f with
    | next=>obtain ⟨σ7,H7,I7,n7⟩:=q7; exact again I7 n7
    | cont=>obtain ⟨σ7,H7,I7,n7⟩:=q7; exact again I7 n7
    | brk=>obtain ⟨σ7,H7,I7,q7⟩:=q7; exact ⟨σ7,H7,I7.unpinned,q7⟩
    | ret v=>obtain ⟨x7,σ7,H7,I7,r7,q7⟩:=q7; exact ⟨x7,σ7,H7,I7.unpinned,r7,q7⟩
end

/-! ### the forms one uses -/
/-- over a list that the body leaves as it is -/
theorem z6O {K : PySem.W.Frag} {a : Addr} {xs : List V} {g : TG} {tb : TS} {D : Ends} {σ : St} {H : Hp} (Pv : Nat->St->Hp->Prop) (h0 : Pv 0 σ H) (hl : ∀ i σ H,i≤xs.length->Pv i σ H->SqL K H a xs)
    (hs : ∀ i x σ H,xs[i]? = some x->Pv i σ H->g x σ H fun σ2 H2=>tb { D with nx:=Pv (i + 1),ct:=Pv (i + 1),bk:=D.nx } σ2 H2) (hd : ∀ σ H,Pv xs.length σ H->D.nx σ H) :
    ∃ W : Nat->Nat->St->Hp->Prop,(∃ m,W 0 m σ H)∧∀ i m σ H,W i m σ H →
      ((Itl K a).stop i H∧D.nx σ H)∨((Itl K a).go i H∧∃ N : St->Hp->Prop,(∀ σ' H',N σ' H'->∃ m',m' < m∧W (i + 1) m' σ' H')∧∀ x H',(Itl K a).yld i H x H'->g x σ H' fun σ2 H2=>tb { D with nx:=N,ct:=N,bk:=D.nx } σ2 H2):=by
  refine ⟨fun i m σ H=>m=xs.length - i∧i≤xs.length∧Pv i σ H,⟨xs.length,by simp,Nat.zero_le _,h0⟩,?_⟩
  rintro i m σ H ⟨rfl,hi,p⟩
  have q:=hl i σ H hi p
  by_cases hlt : i < xs.length
  · refine .inr ⟨⟨xs,xs[i],q,by simp [hlt]⟩,Pv (i + 1),fun σ' H' p'=>⟨xs.length - (i + 1),by omega,rfl,hlt,p'⟩,fun x H' y=>?_⟩
    obtain ⟨e,y⟩:=y
    subst e
    exact hs i x σ _ (y xs q) p
  · have e : i=xs.length:=by omega
    subst e
    exact .inl ⟨⟨xs,q,Nat.le_refl _⟩,hd σ H p⟩
end L2

namespace L2
open PySem PySem.Spec PyProof.Rows

abbrev R2:=V->V->Hp->VK->Prop
/-- a two-place operation on values: f is binaryOp op,inplaceOp op or compareOp op -/
def OpR (X : Cx) (f : Value->Value->Sem Value) (r : R2) : Prop:=
  ∀ (pins : List (Addr × Obj)) (s : Shared) (σ : St) (H : Hp) (x y : V) (v u : Value) (Q : VK),Inv X pins σ H s->RelV x v->RelV y u->r x y H Q →
    wpAny (model X.prog X.w) X.A (f v u) (EP X pins σ Q) X.xe s
/-- a one-place operation -/
def UnR (X : Cx) (f : Value->Sem Value) (r : V->Hp->VK->Prop) : Prop:=
  ∀ (pins : List (Addr × Obj)) (s : Shared) (σ : St) (H : Hp) (x : V) (v : Value) (Q : VK),Inv X pins σ H s->RelV x v->r x H Q →
    wpAny (model X.prog X.w) X.A (f v) (EP X pins σ Q) X.xe s
/-- a call of a value that is known (a builtin,a type) with values -/
def CallR (X : Cx) (f : Value) (r : List V->Hp->VK->Prop) : Prop:=
  ∀ (pins : List (Addr × Obj)) (s : Shared) (σ : St) (H : Hp) (xs : List V) (us : List Value) (Q : VK),Inv X pins σ H s->Vals xs us->r xs H Q →
    wpAny (model X.prog X.w) X.A (call f us) (EP X pins σ Q) X.xe s
/-- a value's truth -/
def TruR (X : Cx) (r : V->Hp->(Bool->Hp->Prop)->Prop) : Prop:=
  ∀ (pins : List (Addr × Obj)) (s : Shared) (σ : St) (H : Hp) (x : V) (v : Value) (Q : Bool->Hp->Prop),Inv X pins σ H s->RelV x v->r x H Q →
    wpAny (model X.prog X.w) X.A (truthy v) (TP X pins σ Q) X.xe s

def tOp (r : R2) (ta tb : TE) : TE:=fun σ H Q=>ta σ H fun x H1=>tb σ H1 fun y H2=>r x y H2 Q
def tUn (r : V->Hp->VK->Prop) (ta : TE) : TE:=fun σ H Q=>ta σ H fun x H1=>r x H1 Q
/-- ints in,under C,and a value out -/
def rI (C : Int->Int->Prop) (g : Int->Int->V) : R2:=fun x y H Q=>∃ i j,x = .int i∧y = .int j∧C i j∧Q (g i j) H
def rI0 (g : Int->Int->V) : R2:=fun x y H Q=>∃ i j,x = .int i∧y = .int j∧Q (g i j) H
def rU (g : Int->V) : V->Hp->VK->Prop:=fun x H Q=>∃ i,x = .int i∧Q (g i) H

section
variable {X : Cx} {a b c : Expr} {ta tb tc : TE} {pos : Pos}

theorem binT (ha : PE X a ta) (hb : PE X b tb) {pins : List (Addr × Obj)} {s : Shared} {σ : St} {H : Hp} {R : V->V->Hp->Prop} (I : Inv X pins σ H s)
    (h : ta σ H fun x H1=>tb σ H1 fun y H2=>R x y H2) {Q : Value->Shared->Prop} {f : Value->Value->Sem Value}
    (hf : ∀ v u s2 x y H2,Inv X pins σ H2 s2->RelV x v->RelV y u->R x y H2->wpAny (model X.prog X.w) X.A (f v u) Q X.xe s2) :
    wpAny (model X.prog X.w) X.A (eval a X.env) (fun v s₁=>wpAny (model X.prog X.w) X.A (eval b X.env) (fun u s₂=>wpAny (model X.prog X.w) X.A (f v u) Q X.xe s₂) X.xe s₁) X.xe s:=by
  refine thn (ha pins s σ H _ I h) fun v s1 ⟨x,H1,I1,r1,q1⟩=>?_
  refine thn (hb pins s1 σ H1 _ I1 q1) fun u s2 ⟨y,H2,I2,r2,q2⟩=>?_
  exact hf v u s2 x y H2 I2 r1 r2 q2

theorem pe_op {op : Operator} {r : R2} (ho : OpR X (binaryOp op) r) (ha : PE X a ta) (hb : PE X b tb) : PE X (.BinOp a op b pos) (tOp r ta tb):=by
  intro pins s σ H Q I h
  exact wpAny_BinOp (binT ha hb I h fun v u s2 x y H2 I2 rx ry q=>ho pins s2 σ H2 x y v u Q I2 rx ry q)
theorem pe_un {op : UnaryOp} {r : V->Hp->VK->Prop} (ho : UnR X (unaryOp op) r) (ha : PE X a ta) : PE X (.UnaryOp op a pos) (tUn r ta):=by
  intro pins s σ H Q I h
  exact UnaryOp_ (thn (ha pins s σ H _ I h) fun v s1 ⟨x,H1,I1,r1,q1⟩=>ho pins s1 σ H1 x v Q I1 r1 q1)

/-! ### ints -/
theorem opI {f : Value->Value->Sem Value} {C : Int->Int->Prop} {g : Int->Int->Int}
    (rule : ∀ (i j : Int) (t u : Tok) (s : Shared) (Q : Value->Shared->Prop) (E : Value->Shared->Prop),C i j->Q (.int (g i j) s.toks) { s with toks:=s.toks + 1 }->wpAny (model X.prog X.w) X.A (f (.int i t) (.int j u)) Q E s) :
    OpR X f (rI C fun i j=>.int (g i j)):=by
  intro pins s σ H x y v u Q I rx ry h
  obtain ⟨i,j,rfl,rfl,hc,q⟩:=h
  obtain ⟨t,rfl⟩:=rx
  obtain ⟨t',rfl⟩:=ry
  exact rule i j t t' s _ _ hc ⟨.int (g i j),H,I.tok _,⟨_,rfl⟩,q⟩
theorem opI0 {f : Value->Value->Sem Value} {g : Int->Int->Int}
    (rule : ∀ (i j : Int) (t u : Tok) (s : Shared) (Q : Value->Shared->Prop) (E : Value->Shared->Prop),Q (.int (g i j) s.toks) { s with toks:=s.toks + 1 }->wpAny (model X.prog X.w) X.A (f (.int i t) (.int j u)) Q E s) :
    OpR X f (rI0 fun i j=>.int (g i j)):=by
  intro pins s σ H x y v u Q I rx ry h
  obtain ⟨i,j,rfl,rfl,q⟩:=h
  obtain ⟨t,rfl⟩:=rx
  obtain ⟨t',rfl⟩:=ry
  exact rule i j t t' s _ _ ⟨.int (g i j),H,I.tok _,⟨_,rfl⟩,q⟩
theorem opB0 {f : Value->Value->Sem Value} {g : Int->Int->Bool}
    (rule : ∀ (i j : Int) (t u : Tok) (s : Shared) (Q : Value->Shared->Prop) (E : Value->Shared->Prop),Q (.bool (g i j)) s->wpAny (model X.prog X.w) X.A (f (.int i t) (.int j u)) Q E s) :
    OpR X f (rI0 fun i j=>.bl (g i j)):=by
  intro pins s σ H x y v u Q I rx ry h
  obtain ⟨i,j,rfl,rfl,q⟩:=h
  obtain ⟨t,rfl⟩:=rx
  obtain ⟨t',rfl⟩:=ry
  exact rule i j t t' s _ _ ⟨.bl (g i j),H,I,rfl,q⟩

def CDiv (i j : Int) : Prop:=0 < j∧j < 1073741824
def CPow (i j : Int) : Prop:=0≤j∧j≤1000000∧i.natAbs < 2 ^ 64
def CMul (i j : Int) : Prop:=(-(2 ^ 64) < i∧i < 2 ^ 64)∨(-(2 ^ 64) < j∧j < 2 ^ 64)
theorem CMul.ok {i j : Int} (h : CMul i j) : IntMulOk i j:=by
  rcases h with ⟨h1,h2⟩ | ⟨h1,h2⟩
  · exact .of_left (intBits_le_64 h1 h2)
  · exact .of_right (intBits_le_64 h1 h2)

theorem op_add : OpR X (binaryOp .Add) (rI0 fun i j=>.int (i + j)):=opI0 fun _ _ _ _ _ _ _ q=>add_int q
theorem op_sub : OpR X (binaryOp .Sub) (rI0 fun i j=>.int (i - j)):=opI0 fun _ _ _ _ _ _ _ q=>sub_int q
theorem op_mul : OpR X (binaryOp .Mult) (rI CMul fun i j=>.int (i * j)):=opI fun _ _ _ _ _ _ _ hc q=>mul_int q hc.ok
/-- // by a positive divisor -/
theorem op_fdiv : OpR X (binaryOp .FloorDiv) (rI CDiv fun i j=>.int (i / j)):=opI fun i j _ _ _ _ _ hc q=>by
  have h1 : (0 : Int) < j:=hc.1
  have h2 : j < 1073741824:=hc.2
  exact floordiv_int (by omega) (by rw [Int.fdiv_eq_ediv_of_nonneg i (by omega)]; exact q) (.inl (PyProof.noPylong_small (by omega)))
/-- % by a positive divisor of any size -/
theorem op_mod : OpR X (binaryOp .Mod) (rI (fun _ j=>0 < j) fun i j=>.int (i % j)):=opI fun i j _ _ _ _ _ hc q=>by
  have h1 : (0 : Int) < j:=hc
  exact mod_int' (by omega) (by rw [Int.fmod_eq_emod_of_nonneg i (by omega)]; exact q)
theorem op_pow : OpR X (binaryOp .Pow) (rI CPow fun i j=>.int (i ^ j.toNat)):=opI fun _ _ _ _ _ _ _ hc q=>pow_int_small hc.1 hc.2.1 hc.2.2 q


theorem unI {f : Value->Sem Value} {g : Int->Int}
    (rule : ∀ (i : Int) (t : Tok) (s : Shared) (Q : Value->Shared->Prop) (E : Value->Shared->Prop),Q (.int (g i) s.toks) { s with toks:=s.toks + 1 }->wpAny (model X.prog X.w) X.A (f (.int i t)) Q E s) :
    UnR X f (rU fun i=>.int (g i)):=by
  intro pins s σ H x v Q I rx h
  obtain ⟨i,rfl,q⟩:=h
  obtain ⟨t,rfl⟩:=rx
  exact rule i t s _ _ ⟨.int (g i),H,I.tok _,⟨_,rfl⟩,q⟩
theorem un_neg : UnR X (unaryOp .USub) (rU fun i=>.int (-i)):=unI fun _ _ _ _ _ q=>neg_int q

/-! ### z4s among ints: n += (a < b) -/
end

/-! ### comparisons -/


section
variable {X : Cx} {a b c : Expr} {ta tb tc : TE} {pos : Pos}

theorem op_lt : OpR X (compareOp .Lt) (rI0 fun i j=>.bl (decide (i < j))):=opB0 fun _ _ _ _ _ _ _ q=>lt_int q
theorem op_le : OpR X (compareOp .LtE) (rI0 fun i j=>.bl (decide (i≤j))):=opB0 fun _ _ _ _ _ _ _ q=>le_int q
theorem op_gt : OpR X (compareOp .Gt) (rI0 fun i j=>.bl (decide (j < i))):=opB0 fun _ _ _ _ _ _ _ q=>gt_int q



/-- two rules for one operation: by cases -/
theorem OpR.or {f : Value->Value->Sem Value} {r r' : R2} (h : OpR X f r) (h' : OpR X f r') : OpR X f (fun x y H Q=>r x y H Q∨r' x y H Q):=by
  intro pins s σ H x y v u Q I rx ry q
  rcases q with q | q
  · exact h pins s σ H x y v u Q I rx ry q
  · exact h' pins s σ H x y v u Q I rx ry q

theorem z5u (b : Expr) {op : CmpOp} (h : op≠.In:=by decide) (h2 : op≠.NotIn:=by decide) : behindInMarks op b=false:=by
  have e1 : (op == CmpOp.In)=false:=by cases op <;> first | rfl | exact absurd rfl h
  have e2 : (op == CmpOp.NotIn)=false:=by cases op <;> first | rfl | exact absurd rfl h2
  cases b <;> simp [behindInMarks,e1,e2]
/-- a comparison as a value; hm: z5u b,or (for in,not in) by with_unfolding_all rfl -/
theorem pe_cmpR {op : CmpOp} {r : R2} (ho : OpR X (compareOp op) r) (ha : PE X a ta) (hb : PE X b tb) (hm : behindInMarks op b=false) : PE X (.Compare a [op] [b] pos) (tOp r ta tb):=by
  intro pins s σ H Q I h
  exact wpAny_Compare1 (binT ha hb I h fun v u s2 x y H2 I2 rx ry q=>ho pins s2 σ H2 x y v u Q I2 rx ry q) hm
/-- a reading of a value as a test -/
def tTest (t : TE) : TT:=fun σ H Q=>t σ H fun x H'=>∃ k,x = .bl k∧Q k H'
theorem pt_cmpR {op : CmpOp} {r : R2} (ho : OpR X (compareOp op) r) (ha : PE X a ta) (hb : PE X b tb) (hm : behindInMarks op b=false) : PT X (.Compare a [op] [b] pos) (tTest (tOp r ta tb)):=by
  intro pins s σ H Q I h
  refine wpAny_isTrue_Compare1 (thn (ha pins s σ H _ I h) fun v s1 ⟨x,H1,I1,r1,q1⟩=>thn (hb pins s1 σ H1 _ I1 q1) fun u s2 ⟨y,H2,I2,r2,q2⟩=>
    thn (ho pins s2 σ H2 x y v u _ I2 r1 r2 q2) fun c s3 ⟨z,H3,I3,r3,k,e,q3⟩=>?_) hm
  subst e
  cases r3
  exact wpAny_truthy_bool ⟨H3,I3,q3⟩
/-- a op1 b op2 c -/
def y8v (r r' : R2) (ta tb tc : TE) : TE:=fun σ H Q=>ta σ H fun x H1=>tb σ H1 fun y H2=>r x y H2 fun z H3=>∃ k,z = .bl k ∧
  (if k=true then tc σ H3 fun w' H4=>r' y w' H4 Q else Q (.bl false) H3)
theorem y6D {op op' : CmpOp} {r r' : R2} (ho : OpR X (compareOp op) r) (ho' : OpR X (compareOp op') r') (ha : PE X a ta) (hb : PE X b tb) (hc : PE X c tc)
    (hm : lastMarks [op,op'] [b,c]=false:=by with_unfolding_all rfl) : PE X (.Compare a [op,op'] [b,c] pos) (y8v r r' ta tb tc):=by
  intro pins s σ H Q I h
  refine Compare_chain (thn (ha pins s σ H _ I h) fun v s1 ⟨x,H1,I1,r1,q1⟩=>chain_link (thn (hb pins s1 σ H1 _ I1 q1) fun u s2 ⟨y,H2,I2,r2,q2⟩=>
    thn (ho pins s2 σ H2 x y v u _ I2 r1 r2 q2) fun d s3 ⟨z,H3,I3,r3,k,e,q3⟩=>?_)) hm
  subst e
  cases r3
  refine wpAny_truthy_bool ?_
  cases k with
  | false=>exact ite_ff ⟨.bl false,H3,I3,rfl,q3⟩
  | true=>exact ite_tt (chain_last (thn (hc pins s3 σ H3 _ I3 q3) fun w' s4 ⟨z',H4,I4,r4,q4⟩=>ho' pins s4 σ H4 y z' u w' Q I4 r2 r4 q4))

/-! ### truth -/
/-- a value's truth by the abstract heap -/
def TruV (K : PySem.W.Frag) (x : V) (H : Hp) (k : Bool) : Prop:=
  match x with
  | .non=>k=false
  | .bl b=>k=b
  | .int i=>k=(i != 0)
  | .str y=>y.length≤sizeLine∧k=((y.length : Int) != 0)
  | .byt y=>y.size≤sizeLine∧k=((y.size : Int) != 0)
  | .ref p=>(∃ xs,SqL K H p xs∧k = !xs.isEmpty)∨(∃ xs,SqT K H p xs∧k = !xs.isEmpty)∨∃ kvs,H p=some (.dK kvs)∧k = !kvs.isEmpty
  | _=>False
theorem y0Q {κ : Type} {kvs : List (κ × V)} {vs : List (κ × Value)} (r : KV kvs vs) : (!vs.isEmpty) = !kvs.isEmpty:=by
  cases r <;> rfl
theorem z5Z {xs : List V} {its : List Value} (r : Vals xs its) : (!its.toArray.isEmpty) = !xs.isEmpty:=by
  cases r <;> simp
theorem z6f : (sizeLine : Nat) < 2 ^ 63:=by rw [sizeLine_eq]; decide
theorem tru_ok : TruR X (fun x H Q=>∃ k,TruV X.K x H k∧Q k H):=by
  intro pins s σ H x v Q I rx h
  obtain ⟨k,e,q⟩:=h
  have hl:=z6f
  have hs : sizeLine=16777216:=sizeLine_eq
  cases x with
  | non=>
    cases rx
    have e' : k=false:=e
    subst e'
    exact truthy_none ⟨H,I,q⟩
  | bl b=>
    cases rx
    have e' : k=b:=e
    subst e'
    exact wpAny_truthy_bool ⟨H,I,q⟩
  | int i=>
    obtain ⟨t,rfl⟩:=rx
    have e' : k=(i != 0):=e
    subst e'
    exact PySem.P.truthy_int ⟨H,I,q⟩
  | str y=>
    obtain ⟨t,rfl⟩:=rx
    obtain ⟨hy,e'⟩ : y.length≤sizeLine∧k=((y.length : Int) != 0):=e
    subst e'
    exact PySem.P.truthy_str (by omega) ⟨H,I.tok _,q⟩
  | byt y=>
    obtain ⟨t,rfl⟩:=rx
    obtain ⟨hy,e'⟩ : y.size≤sizeLine∧k=((y.size : Int) != 0):=e
    subst e'
    exact PySem.W.truthy_bytes (by omega) ⟨H,I.tok _,q⟩
  | ref p=>
    cases rx
    have e' : (∃ xs,SqL X.K H p xs∧k = !xs.isEmpty)∨(∃ xs,SqT X.K H p xs∧k = !xs.isEmpty)∨∃ kvs,H p=some (.dK kvs)∧k = !kvs.isEmpty:=e
    rcases e' with ⟨xs,hx,e'⟩ | ⟨xs,hx,e'⟩ | ⟨kvs,hx,e'⟩
    · subst e'
      obtain ⟨its,r,pl,hz⟩:=I.list hx
      have hlen:=r.length
      exact wpAny_truthy_list pl.isList (by simp only [List.size_toArray]; omega) ⟨H,I.tok _,by rw [z5Z r]; exact q⟩
    · subst e'
      obtain ⟨its,r,pl,hz⟩:=I.tuple hx
      have hlen:=r.length
      exact truthy_tuple pl (by simp only [List.size_toArray]; omega) ⟨H,I.tok _,by rw [z5Z r]; exact q⟩
    · subst e'
      obtain ⟨hz,hS,vs,r,m⟩ : kvs.length≤sizeLine∧(p == sysModules)=false∧∃ vs,KV kvs vs∧s.heap.DictOf (z1u X.prog X.w) p vs:=I.hok p _ hx
      have hlen : kvs.length=vs.length:=Paired.length r
      exact wpAny_truthy_dict hS m (by omega) ⟨H,I.tok _,by rw [y0Q r]; exact q⟩
  | _=>exact (show False from e).elim
/-- any expression whose test is its value's truth (a name,a call,a subscript,a field ..: he by fun _=>rfl) -/
theorem y5C (ha : PE X a ta) (he : ∀ whole,isTrue a X.env whole=(do let v ← whole; standAt a.pos; holding [v] (truthy v))) :
    PT X a (fun σ H Q=>ta σ H fun x H'=>∃ k,TruV X.K x H' k∧Q k H'):=by
  intro pins s σ H Q I h
  exact isTrue_plain (thn (ha pins s σ H _ I h) fun v s1 ⟨x,H1,I1,r1,q1⟩=>tru_ok pins s1 σ H1 x v Q I1 r1 q1) (he _)

/-! ### strs and bytes -/


/-! ### scalar builtins,by CallR -/
theorem z5o {x : V} {us : List Value} (r : Vals [x] us) : ∃ u,us=[u]∧RelV x u:=by
  cases r with
  | cons r1 r2=>cases r2; exact ⟨_,rfl,r1⟩
theorem vals2 {x y : V} {us : List Value} (r : Vals [x,y] us) : ∃ u w',us=[u,w']∧RelV x u∧RelV y w':=by
  cases r with
  | cons r1 r2=>
    cases r2 with
    | cons r3 r4=>cases r4; exact ⟨_,_,rfl,r1,r3⟩
theorem y3G : CallR X (.type "int") (fun xs H Q=>(∃ i,xs=[.int i]∧Q (.int i) H)∨∃ k,xs=[.bl k]∧Q (.int (if k then 1 else 0)) H):=by
  intro pins s σ H xs us Q I r h
  rcases h with ⟨i,rfl,q⟩ | ⟨k,rfl,q⟩
  · obtain ⟨u,rfl,t,rfl⟩:=z5o r
    exact call_int_int ⟨.int i,H,I,⟨_,rfl⟩,q⟩
  · obtain ⟨u,rfl,r1⟩:=z5o r
    cases r1
    exact call_int_bool ⟨.int (if k then 1 else 0),H,I.tok _,⟨_,rfl⟩,q⟩
/-- len of a str,a bytes,a list,a tuple -/
def LenV (K : PySem.W.Frag) (x : V) (H : Hp) (n : Nat) : Prop:=
  match x with
  | .str y=>y.length≤sizeLine∧n=y.length
  | .byt y=>y.size≤sizeLine∧n=y.size
  | .ref p=>(∃ xs,SqL K H p xs∧n=xs.length)∨∃ xs,SqT K H p xs∧n=xs.length
  | _=>False
theorem y6F : CallR X (.builtin "len") (fun xs H Q=>∃ x n,xs=[x]∧LenV X.K x H n∧Q (.int n) H):=by
  intro pins s σ H xs us Q I r h
  obtain ⟨x,n,rfl,e,q⟩:=h
  obtain ⟨u,rfl,rx⟩:=z5o r
  have hl:=z6f
  have hs : sizeLine=16777216:=sizeLine_eq
  cases x with
  | str y=>
    obtain ⟨t,rfl⟩:=rx
    obtain ⟨hy,e'⟩ : y.length≤sizeLine∧n=y.length:=e
    subst e'
    exact len_str (by omega) ⟨.int _,H,I.tok _,⟨_,rfl⟩,q⟩
  | byt y=>
    obtain ⟨t,rfl⟩:=rx
    obtain ⟨hy,e'⟩ : y.size≤sizeLine∧n=y.size:=e
    subst e'
    exact PySem.W.len_bytes (by omega) ⟨.int _,H,I.tok _,⟨_,rfl⟩,q⟩
  | ref p=>
    cases rx
    have e' : (∃ xs,SqL X.K H p xs∧n=xs.length)∨∃ xs,SqT X.K H p xs∧n=xs.length:=e
    rcases e' with ⟨xs,hx,e'⟩ | ⟨xs,hx,e'⟩
    · subst e'
      obtain ⟨its,r',pl,hz⟩:=I.list hx
      have hlen:=r'.length
      exact Calls.call_len_list pl.isList (by simp only [List.size_toArray]; omega) ⟨.int xs.length,H,I.tok _,⟨_,by simp only [List.size_toArray]; rw [hlen]⟩,q⟩
    · subst e'
      obtain ⟨its,r',pl,hz⟩:=I.tuple hx
      have hlen:=r'.length
      exact len_tuple pl (by simp only [List.size_toArray]; omega) ⟨.int xs.length,H,I.tok _,⟨_,by simp only [List.size_toArray]; rw [hlen]⟩,q⟩
  | _=>exact (show False from e).elim
end
end L2

namespace L2
open PySem PySem.Spec PyProof.Rows

/-! ### an instance,its attributes a map -/
structure ObjM (h : Heap) (x dx C : Addr) (mA : Str->Option Value) : Prop where
  obj : h.get? x=some (PySem.W.instObj C dx)
  ns : h.Ns1 dx mA
  ne : dx≠x

theorem y4Z {h : Heap} {dx : Addr} {mA : Str->Option Value} (n : h.Ns1 dx mA) : ∃ od,h.get? dx=some od∧∀ name,PySem.W.lookIn name od=some (mA name):=by
  obtain ⟨o,es,ep,ho,hd,hk,_,hm⟩:=n
  refine ⟨o,ho,fun name=>?_⟩
  have e:=hm name
  unfold nsFind findBy at e
  rw [← Array.find?_toList] at e
  unfold PySem.W.lookIn
  rw [hd]
  dsimp only
  split
  · rename_i y q
    rw [q] at e
    exact congrArg some e
  · rename_i q
    rw [q] at e
    have a : es.toList.any (·.refKey)=false:=by
      rw [List.any_eq_false]
      intro y hy
      obtain ⟨z,t,hkey⟩:=hk y (Array.mem_toList_iff.mp hy)
      simp [DictEntry.refKey,hkey]
    have a' : ¬ es.toList.any (·.refKey)=true:=by rw [a]; exact Bool.false_ne_true
    rw [if_neg a']
    exact congrArg some e

theorem ObjM.look {h : Heap} {x dx C : Addr} {mA : Str->Option Value} (I : ObjM h x dx C mA) : ∃ od,PySem.W.InstAt h x (PySem.W.instObj C dx) C (some od)∧∀ name,PySem.W.lookIn name od=some (mA name):=
  let ⟨od,ho,hl⟩:=y4Z I.ns
  ⟨od,⟨I.obj,rfl,rfl,ho⟩,hl⟩

section
variable {prog : Program} {w : World} {A : Around} {E : Value->Shared->Prop} {s : Shared} {K : PySem.W.Frag} {x dx C f : Addr} {mA : Str->Option Value} {name : Str} {v : Value}





end

/-! ### the attributes as a list of pairs -/

theorem RelO.none_of {o : Option Value} (r : RelO none o) : o=none:=by
  cases o with
  | none=>rfl
  | some u=>exact (show False from r).elim

section
variable {P : Program} {w : World} {H H' : Hp} {h h' : Heap} {a C dx : Addr} {fs fs' : List (Str × V)}
end

/-! ### what of the text a class must have -/
structure Cls (K : PySem.W.Frag) (C : Addr) : Prop where
  pg : PySem.W.plainGet K C Str.empty=true
  hd : PySem.W.hasDictIn K C=true
  po : PySem.W.plainOver K C=true
  sa : PySem.W.findIn K (.ref C) "__setattr__" = some (some (.builtin "object.__setattr__"))
theorem Cls.get {K : PySem.W.Frag} {C : Addr} (c : Cls K C) (f : Str) : PySem.W.plainGet K C f=true:=c.pg
/-- a constant of the class -/
structure Con (K : PySem.W.Frag) (C : Addr) (f : Str) (v : V) (u : Value) : Prop where
  at_ : PySem.W.findIn K (.ref C) f=some (some u)
  rel : RelV v u
  get : PySem.W.specialIn K u "__get__" = some none
  cp : PySem.W.copiedNames.contains f=false
/-- a method: a plain def of the class or of one above it -/
structure Meth (K : PySem.W.Frag) (C : Addr) (m : Str) (f : Addr) : Prop where
  at_ : PySem.W.findIn K (.ref C) m=some (some (.ref f))
  fn : PySem.W.isFn K (.ref f)=true
  kp : PySem.W.keepIn K (.ref f)=true

section
variable {X : Cx} {pins : List (Addr × Obj)} {σ : St} {H : Hp} {s : Shared} {a C dx : Addr} {fs : List (Str × V)} {f : Str} {v : V} {A : Around} {E : Value->Shared->Prop}





/-- a new instance,tracked,without attributes -/
theorem Inv.made (I : Inv X pins σ H s) : Inv X pins σ (upd (upd H s.heap.objs.size (.own (s.heap.objs.size + 1))) (s.heap.objs.size + 1) (.ins C s.heap.objs.size []))
    { s with heap:=(s.heap.push PySem.W.emptyDict).push (PySem.W.instObj C s.heap.objs.size) }:=by
  have e1 : (s.heap.push PySem.W.emptyDict).get? s.heap.objs.size=some PySem.W.emptyDict:=Heap.get?_push_size s.heap rfl
  have e2 : ((s.heap.push PySem.W.emptyDict).push (PySem.W.instObj C s.heap.objs.size)).get? (s.heap.objs.size + 1)=some (PySem.W.instObj C s.heap.objs.size):=by
    have:=Heap.get?_push_size (s.heap.push PySem.W.emptyDict) (o:=PySem.W.instObj C s.heap.objs.size) rfl
    rwa [Heap.size_push] at this
  have e3 : (s.heap.push PySem.W.emptyDict).Ns s.heap.objs.size (fun _=>none):=⟨PySem.W.emptyDict,#[],_,e1,rfl,(fun e he=>absurd he (by simp)),fun _=>rfl⟩
  have I1:=I.laid (a:=s.heap.objs.size) (o:=.own (s.heap.objs.size + 1)) (h':=s.heap.push PySem.W.emptyDict) (t':=s.toks) (fun b u q=>Heap.get?_push_of_some _ q) (Nat.le_refl _) ⟨_,e1⟩
  refine I1.laid (a:=s.heap.objs.size + 1) (o:=.ins C s.heap.objs.size []) (t':=s.toks) (fun b u q=>Heap.get?_push_of_some _ q) (Nat.le_of_eq (Heap.size_push _ _)) ?_
  have ne : s.heap.objs.size≠s.heap.objs.size + 1:=Nat.ne_of_lt (Nat.lt_succ_self _)
  refine ⟨by rw [z0s ne,z0m],Nat.zero_le _,ne,e2,fun _=>none,(Heap.Ns1.of_empty e3).at fun o q=>Heap.get?_push_of_some _ q,fun _=>True.intro,fun y hy=>absurd rfl hy⟩

end

/-! ### readings and rules -/

section
variable {X : Cx} {o e value : Expr} {f : Str} {pos pos' tpos : Pos} {ta tv : TE}

end

/-! ### isinstance -/
section
variable {X : Cx} {pins : List (Addr × Obj)} {σ : St} {H : Hp} {s : Shared} {A : Around} {E : Value->Shared->Prop} {Q : Value->Shared->Prop} {c : Value} {b : Bool}
/-- the type of a value,as the fragment's deciders take it; for an instance its class -/
inductive TyOf (K : PySem.W.Frag) (H : Hp) : V->Value->Prop where
  | non : TyOf K H .non (.type "NoneType")
  | bl (x : Bool) : TyOf K H (.bl x) (.type "bool")
  | int (i : Int) : TyOf K H (.int i) (.type "int")
  | str (x : Str) : TyOf K H (.str x) (.type "str")
  | flt (x : UInt64) : TyOf K H (.flt x) (.type "float")
  | lst {a : Addr} {xs : List V} (e : H a=some (.lst xs)) : TyOf K H (.ref a) (.type "list")
  | frz {a : Addr} {o : Obj} {xs : List V} (e : H a=some (.frz o (.lst xs))) : TyOf K H (.ref a) (.type "list")
  | tup {a : Addr} {xs : List V} (e : H a=some (.tup xs)) : TyOf K H (.ref a) (.type "tuple")
  | dK {a : Addr} {kvs : List (Key × V)} (e : H a=some (.dK kvs)) : TyOf K H (.ref a) (.type "dict")
  | dT {a : Addr} {kvs : List (List Key × V)} (e : H a=some (.dT kvs)) : TyOf K H (.ref a) (.type "dict")
  | ins {a C dx : Addr} {fs : List (Str × V)} (e : H a=some (.ins C dx fs)) (cl : Cls K C) (ha : PySem.W.findIn K (.ref C) "__class__" = some (some (.builtin "object.__class__")))
      (hn : PySem.W.specialIn K (.builtin "object.__class__") "__get__" = some (some (.builtin "getset_descriptor.__get__"))) (htk : PySem.W.takesIn K (.builtin "object.__class__")=some true)
      (hm : PySem.W.mroIn K C (.type "object")=some true) : TyOf K H (.ref a) (.ref C)
end
end L2

namespace L2
open PySem PySem.Spec PyProof.Rows

/-! ### room -/
structure Room (k : Nat) (A : Around) : Prop where
  hd : A.handled=none
  dp : A.depth + 3 * k + 5 < recursionLimit
  un : A.units + 16 * k + 200 < cLine
theorem Room.mono {j k : Nat} {A : Around} (r : Room k A) (h : j≤k) : Room j A:=⟨r.hd,by have:=r.dp; omega,by have:=r.un; omega⟩
theorem Room.deeper {k : Nat} {A : Around} (r : Room (k + 1) A) (env : Env) : Room k (A.deeper env):=
  ⟨r.hd,by have:=r.dp; show A.depth + 1 + 3 * k + 5 < _; omega,by have:=r.un; show A.units + 3 + 16 * k + 200 < _; omega⟩
theorem Room.in1 {k : Nat} {A : Around} (r : Room (k + 1) A) : Room k A.in1:=
  ⟨r.hd,by have:=r.dp; show A.depth + 3 * k + 5 < _; omega,by have:=r.un; show A.units + 1 + 16 * k + 200 < _; omega⟩
theorem Room.depth {k : Nat} {A : Around} (r : Room k A) : A.depth < recursionLimit:=by have:=r.dp; omega
theorem Room.units {k : Nat} {A : Around} (r : Room k A) : A.units + 64 < cLine:=by have:=r.un; omega

/-! ### argument lists and displays -/
def tNil : TA:=fun _ H Q=>Q [] H
def tCons (ta : TE) (tr : TA) : TA:=fun σ H Q=>ta σ H fun x H1=>tr σ H1 fun xs H2=>Q (x :: xs) H2
section
variable {X : Cx} {e : Expr} {es : List Expr} {te : TE} {t : TA} {pos : Pos}
theorem pa_nil : PA X [] tNil:=fun _ _ _ _ H Q I h=>Calls.spliced_nil ⟨[],H,I,.nil,h⟩
theorem z1o (ha : PE X e te) (hr : PA X es t) (hs : starEach (e :: es) X.env=(false,eval e X.env) :: starEach es X.env:=by rfl) : PA X (e :: es) (tCons te t):=by
  intro pos pins s σ H Q I h
  rw [hs]
  show wpAny _ _ (spliced ((false,eval e X.env) :: backTo pos (starEach es X.env))) _ _ s
  refine Calls.spliced_cons (thn (ha pins s σ H _ I h) fun u s1 ⟨x,H1,I1,r1,q1⟩=>?_)
  exact thn (hr pos pins s1 σ H1 _ I1 q1) fun us s2 ⟨xs,H2,I2,r2,q2⟩=>⟨x :: xs,H2,I2,.cons r1 r2,q2⟩

/-- a tuple,a list of written items -/
def tTup (t : TA) : TE:=fun σ H Q=>t σ H fun xs H1=>xs.length≤sizeLine∧∀ p,H1 p=none->Q (.ref p) (upd H1 p (.tup xs))
def tLst (t : TA) : TE:=fun σ H Q=>t σ H fun xs H1=>xs.length≤sizeLine∧∀ p,H1 p=none->Q (.ref p) (upd H1 p (.lst xs))
theorem pe_tup {x1} (h : PA X es t) : PE X (.Tuple es x1 pos) (tTup t):=by
  intro pins s σ H Q I hq
  refine wpAny_Tuple_spliced (thn (h pos pins s σ H _ I hq) fun us s1 ⟨xs,H1,I1,r,z,q⟩=>⟨by rw [← r.length]; exact z,?_⟩)
  have hf : H1 s1.heap.objs.size=none:=I1.hok.fresh (Nat.le_refl _)
  refine ⟨.ref s1.heap.objs.size,upd H1 s1.heap.objs.size (.tup xs),I1.laid (t':=s1.toks) (fun b u e=>Heap.get?_push_of_some _ e) (Nat.le_refl _) ?_,rfl,q _ hf⟩
  exact ⟨z,us,r,TupN.new _ _⟩
theorem y2S (h : PA X es t) : PE X (.List es pos) (tLst t):=by
  intro pins s σ H Q I hq
  refine wpAny_List_spliced (thn (h pos pins s σ H _ I hq) fun us s1 ⟨xs,H1,I1,r,z,q⟩=>⟨by rw [← r.length]; exact z,?_⟩)
  have hf : H1 s1.heap.objs.size=none:=I1.hok.fresh (Nat.le_refl _)
  refine ⟨.ref s1.heap.objs.size,upd H1 s1.heap.objs.size (.lst xs),I1.laid (t':=s1.toks) (fun b u e=>Heap.get?_push_of_some _ e) (Nat.le_refl _) ?_,rfl,q _ hf⟩
  exact ⟨z,us,0,r,Heap.get?_push_size _ rfl⟩
end

/-! ### what a def promises -/
/-- a def's promise: the bound arguments in the parameters' order,the heap,the wanted end,the wanted exception -/
abbrev Sp:=List V->Hp->VK->XK->Prop
/-- how an exception lies behind a call (file 08 gives it): the callers' frames,abstract heap and state ahead of the call,the wish,the exception,the state -/
abbrev CXT:=List Env->Hp->Shared->XK->Value->Shared->Prop

/-- the state at a call -/
structure Env0 (P : Program) (w : World) (K : PySem.W.Frag) (mg : Str->Option Value) (base : Heap) (A : Around) (outer : List Env) (s : Shared) (H : Hp) : Prop where
  frames : A.frames=some outer
  mod : Mod K mg base
  bs : ∀ b o,base.get? b=some o->s.heap.get? b=some o∧H b=none
  bsz : base.objs.size≤s.heap.objs.size
  funs : s.heap.FunFrames base outer
  frf : ∀ b∈frs outer,H b=none
  hok : HOk P w H s.heap
  bare : AllBare s.gens
/-- a call's end -/
def CE (outer : List Env) (P : Program) (w : World) (H : Hp) (s : Shared) (Q : VK) (u : Value) (s' : Shared) : Prop:=
  ∃ v H',s'.os=s.os∧AllBare s'.gens∧Un (frs outer) [] H H' s.heap s'.heap∧HOk P w H' s'.heap∧RelV v u∧Q v H'
def CR (CX : CXT) (outer : List Env) (P : Program) (w : World) (H : Hp) (s : Shared) (Q : VK) (E : XK) (r : Result) (s' : Shared) : Prop:=
  match r with
  | .ok (.ret u)=>CE outer P w H s Q u s'
  | .ok _=>False
  | .error e=>CX outer H s E e s'
structure FnOk (P : Program) (w : World) (K : PySem.W.Frag) (mg : Str->Option Value) (base : Heap) (CX : CXT) (k : Nat) (f : Addr) (fd : FuncData) (ps : List Str) (sp : Sp) : Prop where
  len : ∀ vs H Q E,sp vs H Q E->vs.length=ps.length
  run : ∀ (A : Around) (outer : List Env) (s : Shared) (H : Hp) (args : Args) (us : List Value) (vs : List V) (Q : VK) (E : XK),Room k A->Env0 P w K mg base A outer s H->BindsTo s fd args (ps.zip us)->Vals vs us->sp vs H Q E →
    codeAny (model P w) A (.call (.ref f) args) (CR CX outer P w H s Q E) s
theorem FnOk.mono {P : Program} {w : World} {K : PySem.W.Frag} {mg : Str->Option Value} {base : Heap} {CX : CXT} {j k : Nat} {f : Addr} {fd : FuncData} {ps : List Str} {sp : Sp} (F : FnOk P w K mg base CX j f fd ps sp) (h : j≤k) :
    FnOk P w K mg base CX k f fd ps sp:=⟨F.len,fun A outer s H args us vs Q E hr=>F.run A outer s H args us vs Q E (hr.mono h)⟩
/-- a weaker promise -/
theorem FnOk.imp {P : Program} {w : World} {K : PySem.W.Frag} {mg : Str->Option Value} {base : Heap} {CX : CXT} {k : Nat} {f : Addr} {fd : FuncData} {ps : List Str} {sp sp' : Sp} (F : FnOk P w K mg base CX k f fd ps sp)
    (h : ∀ vs H Q E,sp' vs H Q E->sp vs H Q E) : FnOk P w K mg base CX k f fd ps sp':=
  ⟨fun vs H Q E q=>F.len vs H Q E (h _ _ _ _ q),fun A outer s H args us vs Q E hr he hb hv hs=>F.run A outer s H args us vs Q E hr he hb hv (h _ _ _ _ hs)⟩

theorem Env0.in1 {P : Program} {w : World} {K : PySem.W.Frag} {mg : Str->Option Value} {base : Heap} {A : Around} {outer : List Env} {s : Shared} {H : Hp} (e : Env0 P w K mg base A outer s H) :
    Env0 P w K mg base A.in1 outer s H:=⟨e.frames,e.mod,e.bs,e.bsz,e.funs,e.frf,e.hok,e.bare⟩

section
variable {X : Cx} {pins : List (Addr × Obj)} {σ : St} {H : Hp} {s s' : Shared}
/-- from a body: what a callee wants -/
theorem Inv.env0 (I : Inv X pins σ H s) : Env0 X.prog X.w X.K X.mg X.base X.A X.stack s H:=
  ⟨I.ok.frames,I.ok.mod,I.bs,Nat.le_trans I.ok.bsz I.sz,I.stack,I.stkFree,I.hok,I.bare⟩
/-- behind a call -/
theorem Inv.after {Q : VK} {u : Value} (I : Inv X pins σ H s) (h : CE X.stack X.prog X.w H s Q u s') : EP X pins σ Q u s':=by
  obtain ⟨v,H',os,bare,un,hok,r,q⟩:=h
  obtain ⟨hh,g,d,t,os'⟩:=s'
  obtain rfl : os'=s.os:=os
  exact ⟨v,H',I.call (h':=hh) (g':=g) (d':=d) (t':=t) (ch:=[]) un hok bare (fun b z=>absurd z (by simp)),r,q⟩
end

/-! ### calls -/
/-- f(..): the written arguments,then the defaults dvs; E: what is wanted of an exception -/
def tCall (sp : Sp) (dvs : List V) (E : XK) (t : TA) : TE:=fun σ H Q=>t σ H fun vs H1=>sp (vs ++ dvs) H1 Q E

/-- how the parameters are bound: us the positional arguments,kw the keywords' values by name,ds the defaults that fill up -/
def Binds (K : PySem.W.Frag) (fd : FuncData) (ps : List Str) (ds : List Value) : Prop:=
  ∀ (s : Shared) (us : List Value),K.In s.heap->(us ++ ds).length=ps.length->BindsTo s fd ⟨us,[]⟩ (ps.zip (us ++ ds))
/-- every parameter is given -/
theorem Binds.all {K : PySem.W.Frag} {fd : FuncData} {ps : List Str} (h : ∀ us : List Value,us.length=ps.length->bindArgs fd ⟨us,[]⟩=pure (ps.zip us)) : Binds K fd ps []:=fun s us _ hl=>by
  rw [List.append_nil] at hl ⊢
  exact .of_eq (h us hl)

/-- an exception of a callee reaches what this body wants of exceptions -/
def y2K (CX : CXT) (X : Cx) (E : XK) : Prop:=∀ (pins : List (Addr × Obj)) (σ : St) (H : Hp) (s : Shared) (e : Value) (s' : Shared),Inv X pins σ H s->CX X.stack H s E e s'->X.xe e s'

section
variable {X : Cx} {CX : CXT} {k : Nat} {f C : Addr} {fd : FuncData} {ps : List Str} {sp : Sp} {dvs : List V} {ds : List Value} {E : XK} {x m : Str} {p pos apos : Pos} {e o : Expr} {es : List Expr} {ta : TE} {t : TA}

/-- the callee runs -/
theorem run_fn {pins : List (Addr × Obj)} {σ : St} {H : Hp} {s : Shared} {Q : VK} {us : List Value} {vs : List V} (F : FnOk X.prog X.w X.K X.mg X.base CX k f fd ps sp) (hr : Room k X.A) (hb : Binds X.K fd ps ds) (hd : Vals dvs ds) (hx : y2K CX X E)
    (I : Inv X pins σ H s) (r : Vals vs us) (h : sp (vs ++ dvs) H Q E) : wpAny (model X.prog X.w) X.A (call (.ref f) us) (EP X pins σ Q) X.xe s:=by
  have r2 : Vals (vs ++ dvs) (us ++ ds):=r.append hd
  have hl : (us ++ ds).length=ps.length:=by rw [← r2.length]; exact F.len _ _ _ _ h
  refine wpAny_call (codeAny_mono (F.run X.A X.stack s H ⟨us,[]⟩ (us ++ ds) (vs ++ dvs) Q E hr I.env0 (hb s us I.kIn hl) r2 h) fun r s' hq=>?_)
  cases r with
  | error e=>exact hx pins σ H s e s' I hq
  | ok fl=>
    cases fl with
    | ret u=>exact I.after hq
    | next=>exact False.elim hq
    | brk=>exact False.elim hq
    | cont=>exact False.elim hq

theorem pe_call (F : FnOk X.prog X.w X.K X.mg X.base CX k f fd ps sp) (hr : Room k X.A) (hg : Gl X x) (hm : X.mg x=some (.ref f)) (hk : PySem.W.keepIn X.K (.ref f)=true) (hb : Binds X.K fd ps ds) (hd : Vals dvs ds) (hx : y2K CX X E)
    (ha : PA X (e :: es) t) (hdb : (x == ("__debug__" : Str))=false:=by decide) (he : starEach (e :: es) X.env=(false,eval e X.env) :: starEach es X.env:=by rfl) (hpl : (backTo pos (starEach es X.env)).any (·.1)=false:=by rfl) :
    PE X (.Call (.Name x p) (e :: es) [] pos) (tCall sp dvs E t):=by
  intro pins s σ H Q I h
  refine wpAny_Call_Name_kw (z5r I hg hm ?_ hdb)
  refine PySem.W.callWith_K (h₀:=X.base) I.ok.mod.kin hk (thn (ha pos pins s σ H _ I h) fun us s1 ⟨vs,H1,I1,r,q⟩=>⟨I1.kIn,?_⟩) he hpl
  exact run_fn F hr hb hd hx I1 r q


/-- what a class must have to be made -/
structure Mk (K : PySem.W.Frag) (C f : Addr) : Prop where
  makes : PySem.W.makesIn K C=true
  init : PySem.W.findIn K (.ref C) "__init__" = some (some (.ref f))
  fn : PySem.W.isFn K (.ref f)=true
  kp : PySem.W.keepIn K (.ref C)=true

end

/-! ### keywords -/
section
variable {X : Cx} {CX : CXT} {k : Nat} {f C : Addr} {fd : FuncData} {ps ks : List Str} {sp : Sp} {E : XK} {x m : Str} {p pos apos kpos : Pos} {e o : Expr} {es : List Expr} {kws : List Keyword} {te ta : TE} {t tk : TA} {nm : Option Str}

/-- how a call with keywords binds: g puts the positional values us and the keywords' values ws (names ks) in the parameters' order,defaults among them -/
structure KBinds (K : PySem.W.Frag) (fd : FuncData) (ps ks : List Str) (g : List Value->List Value->List Value) (gV : List V->List V->List V) : Prop where
  to : ∀ (s : Shared) (us ws : List Value),K.In s.heap->(g us ws).length=ps.length->BindsTo s fd ⟨us,ks.zip ws⟩ (ps.zip (g us ws))
  rel : ∀ {vs : List V} {us : List Value} {zs : List V} {ws : List Value},Vals vs us->Vals zs ws->Vals (gV vs zs) (g us ws)
variable {g : List Value->List Value->List Value} {gV : List V->List V->List V}
end

/-! ### a def's body keeps its promise -/
/-- names: the parameters first -/
structure FnScope (N P : List Str) (sc : Scope) : Prop where
  kind : sc.kind = .function
  co : sc.isCoroutine=false
  gen : sc.isGenerator=false
  nd : N.Nodup
  pre : N.take P.length=P
  par : ∀ x∈P,sc.names.lookup x=some .local∨sc.names.lookup x=some .cell
  nofree : ∀ y∈sc.names,y.2≠.free

theorem z8t {kindOf : Str->Option NameKind} {x : Str} : ∀ {binds : List (Str × Value)} {m : Str->Option Value},(∀ v,(x,v) ∉ binds)->bindL kindOf binds m x=m x
  | [],_,_=>rfl
  | (n,v) :: r,m,h=>by
    unfold bindL
    rw [z8t fun w hw=>h w (List.mem_cons_of_mem _ hw)]
    split
    · have : x≠n:=by rintro rfl; exact h v List.mem_cons_self
      simp [this]
    · rfl
theorem z8n {kindOf : Str->Option NameKind} {x : Str} : ∀ {binds : List (Str × Value)} {m : Str->Option Value},(∀ v,(x,v) ∉ binds)->bindC kindOf binds m x=m x
  | [],_,_=>rfl
  | (n,v) :: r,m,h=>by
    unfold bindC
    rw [z8n fun w hw=>h w (List.mem_cons_of_mem _ hw)]
    split
    · rfl
    · have : x≠n:=by rintro rfl; exact h v List.mem_cons_self
      simp [this]
theorem z7M {kindOf : Str->Option NameKind} {x : Str} {v : Value} : ∀ {P : List Str} {vs : List Value} {i : Nat} {m : Str->Option Value},P.Nodup->P[i]? = some x->vs[i]? = some v->kindOf x=some .local →
    bindL kindOf (P.zip vs) m x=some v
  | [],_,_,_,_,h,_,_=>by simp at h
  | _ :: _,[],_,_,_,_,h,_=>by simp at h
  | p :: P,w :: vs,0,m,nd,h1,h2,hk=>by
    simp at h1 h2; subst h1; subst h2
    show bindL kindOf ((p,w) :: P.zip vs) m p=_
    unfold bindL
    rw [z8t fun v hv=>(List.nodup_cons.mp nd).1 (List.of_mem_zip hv).1,if_pos hk]
    simp
  | p :: P,w :: vs,i + 1,m,nd,h1,h2,hk=>by
    show bindL kindOf ((p,w) :: P.zip vs) m x=_
    unfold bindL
    exact z7M (i:=i) (List.nodup_cons.mp nd).2 (by simpa using h1) (by simpa using h2) hk
theorem z7X {kindOf : Str->Option NameKind} {x : Str} {v : Value} : ∀ {P : List Str} {vs : List Value} {i : Nat} {m : Str->Option Value},P.Nodup->P[i]? = some x->vs[i]? = some v->kindOf x≠some .local →
    bindC kindOf (P.zip vs) m x=some v
  | [],_,_,_,_,h,_,_=>by simp at h
  | _ :: _,[],_,_,_,_,h,_=>by simp at h
  | p :: P,w :: vs,0,m,nd,h1,h2,hk=>by
    simp at h1 h2; subst h1; subst h2
    show bindC kindOf ((p,w) :: P.zip vs) m p=_
    unfold bindC
    rw [z8n fun v hv=>(List.nodup_cons.mp nd).1 (List.of_mem_zip hv).1,if_neg hk]
    simp
  | p :: P,w :: vs,i + 1,m,nd,h1,h2,hk=>by
    show bindC kindOf ((p,w) :: P.zip vs) m x=_
    unfold bindC
    exact z7X (i:=i) (List.nodup_cons.mp nd).2 (by simpa using h1) (by simpa using h2) hk

/-- the names' values at the entry -/
def z4K (N : List Str) (vs : List V) : St:=vs.map some ++ List.replicate (N.length - vs.length) none

/-- the context of a def's body,at its entry; an exception leaves the frame,then lies as CX says -/
def z8q (CX : CXT) (P : Program) (w : World) (K : PySem.W.Frag) (mg : Str->Option Value) (base : Heap) (N : List Str) (qual : Str) (scope : Scope) (f : Addr) (cd : Value) (A : Around) (outer : List Env) (s : Shared) (H : Hp) (E : XK) : Cx where
  prog:=P
  w:=w
  K:=K
  mg:=mg
  base:=base
  A:=A.deeper (envOfC qual scope s.heap.objs.size f cd)
  N:=N
  s₀:=s
  H₀:=H
  env:=envOfC qual scope s.heap.objs.size f cd
  outer:=outer
  stack:=envOfC qual scope s.heap.objs.size f cd :: outer
  ex:=[]
  calm:=true
  fn:=fun _=>true
  pn:=[]
  xe:=fun e s'=>wpAny (model P w) (A.deeper (envOfC qual scope s.heap.objs.size f cd)) (leaving (envOfC qual scope s.heap.objs.size f cd) e) (fun _ s''=>CX outer H s E e s'') (fun e' s''=>CX outer H s E e' s'') s'

theorem z9r {sc : Scope} {n : Nat} {x : Str} (h : sc.names.lookup x=some .cell) : ∃ c,(cellsFrom n sc.names []).lookup x=some c:=by
  have q:=PySem.W.cellsFrom_some sc.names n [] (.inl h)
  exact Option.isSome_iff_exists.mp q

theorem y3O {CX : CXT} {P : Program} {w : World} {K : PySem.W.Frag} {mg : Str->Option Value} {base : Heap} {N ps : List Str} {qual : Str} {scope : Scope} {f : Addr} {cd : Value} {A : Around} {outer : List Env} {s s1 : Shared} {H : Hp} {E : XK} {us : List Value} {vs : List V}
    (S : FnScope N ps scope) (hd : A.handled=none) (e0 : Env0 P w K mg base A outer s H) (hl : vs.length=ps.length) (r : Vals vs us)
    (x : InCallC s s.heap.objs.size (bindL (envOfC qual scope s.heap.objs.size f cd).kindOf (ps.zip us) fun _=>none) (cellsFrom (s.heap.objs.size + 1) scope.names []) (bindC (envOfC qual scope s.heap.objs.size f cd).kindOf (ps.zip us) fun _=>none) s1) :
    Inv (z8q CX P w K mg base N qual scope f cd A outer s H E) [] (z4K N vs) H s1:=by
  have hpl : ps.length≤N.length:=by have:=congrArg List.length S.pre; rw [List.length_take] at this; omega
  obtain ⟨h1,tk,rfl,hk⟩:=x.done
  have noA : ∀ b : Addr,b ∉ (z8q CX P w K mg base N qual scope f cd A outer s H E).ex:=fun b z=>absurd (show b∈([] : List Addr) from z) (by simp)
  refine ⟨⟨e0.mod,S.kind,rfl,rfl,Nat.le_refl _,fun y z c h1 h2=>?_,fun y hy=>?_,fun y c _ h=>?_,fun _=>hd,Around.frames_deeper e0.frames,.inr ⟨rfl,rfl⟩,fun b z=>absurd z (noA b),e0.bs,e0.bsz,fun b _ _=>noA b,fun b z=>absurd z (noA b),e0.funs,e0.frf⟩,
    rfl,e0.bare,Un.kept hk,⟨_,x.toInCall.ns,fun i y v h1 h2 h3=>?_⟩,fun y c h=>⟨_,x.cell y c h⟩,e0.hok.fresh (Nat.le_refl _),fun y c h=>?_,fun p hp=>absurd (show p∈([] : List (Addr × Obj)) from hp) (by simp),e0.hok.kept hk,?_⟩
  · exact name_of_addr x.apart (PySem.mem_of_lookup h1) (PySem.mem_of_lookup h2)
  · have hy : scope.names.lookup y=some .cell∨scope.names.lookup y=some .free:=hy
    rcases hy with hy | hy
    · exact z9r hy
    · exact absurd rfl (S.nofree _ (PySem.mem_of_lookup hy))
  · exact Nat.le_of_lt (x.above y c (PySem.mem_of_lookup h))
  · have hi : i < vs.length:=by
      unfold z4K at h2
      by_cases hi : i < vs.length
      · exact hi
      · rw [List.getElem?_append_right (by simpa using hi)] at h2
        rw [List.getElem?_replicate] at h2
        split at h2 <;> cases h2
    have ha : vs[i]? = some v:=by
      unfold z4K at h2
      rw [List.getElem?_append_left (by simpa using hi),List.getElem?_map] at h2
      cases e : vs[i]? with
      | none=>rw [e] at h2; cases h2
      | some a=>rw [e] at h2; cases h2; rfl
    obtain ⟨u,hu,rv⟩:=r.get ha
    have hp : ps[i]? = some y:=by
      rw [← S.pre,List.getElem?_take_of_lt (by omega)]; exact h1
    have ndP : ps.Nodup:=by rw [← S.pre]; exact S.nd.sublist (List.take_sublist _ _)
    refine ⟨u,rv,?_⟩
    rcases S.par y (List.mem_of_getElem? hp) with k | k
    · exact .inl ⟨k,z7M ndP hp hu k⟩
    · obtain ⟨c,e⟩:=z9r (n:=s.heap.objs.size + 1) k
      refine .inr ⟨.inl k,c,e,?_⟩
      have q:=x.cell y c e
      rw [z7X ndP hp hu (by show scope.names.lookup y≠_; rw [k]; decide)] at q
      exact q
  · exact e0.hok.fresh (Nat.le_of_lt (x.above y c (PySem.mem_of_lookup h)))
  · unfold z4K
    show _=N.length
    rw [List.length_append,List.length_map,List.length_replicate]
    omega

/-- THE RULE: a def (or a method) of the text,by its body. The body's reading t is chosen for each entry; it is run at the parameters' values -/
theorem fn_of {CX : CXT} {P : Program} {w : World} {K : PySem.W.Frag} {mg : Str->Option Value} {base : Heap} {k : Nat} {f : Addr} {name qual : Str} {params : Arguments} {body : List Stmt} {scope : Scope} {dV kV doc pm cdv ct oc : Value} {an od : Option Addr}
    {osl : Array (Option Value)} {N ps : List Str} {sp : Sp} (lk : K.lookup f=some ⟨oc,od,.func (PySem.W.fnOf name qual params body scope dV kV doc pm an cdv ct),osl⟩) (hcd : PySem.W.codeIn K cdv qual=true) (S : FnScope N ps scope)
    (len : ∀ vs H Q E,sp vs H Q E->vs.length=ps.length)
    (hbody : ∀ (A : Around) (outer : List Env) (s : Shared) (H : Hp) (vs : List V) (Q : VK) (E : XK),Room k (A.deeper (envOfC qual scope s.heap.objs.size f cdv))->sp vs H Q E →
      ∃ t,PSs (z8q CX P w K mg base N qual scope f cdv A outer s H E) body t∧t { nx:=fun _ H'=>Q .non H',rt:=Q } (z4K N vs) H) :
    FnOk P w K mg base CX (k + 1) f (PySem.W.fnOf name qual params body scope dV kV doc pm an cdv ct) ps sp:=by
  refine ⟨len,fun A outer s H args us vs Q E hr e0 hb r hsp=>?_⟩
  have hl:=len _ _ _ _ hsp
  have KX : K.In s.heap:=e0.mod.kin.keeps fun b o e=>(e0.bs b o e).1
  have lim : s.heap.NoLimit:=e0.mod.nolimit.keeps fun b o e=>(e0.bs b o e).1
  have hkind : ∀ y∈ps.zip us,scope.names.lookup y.1=some .local∨(scope.names.lookup y.1=some .cell∧((cellsFrom (s.heap.objs.size + 1) scope.names []).lookup y.1).isSome=true):=fun ⟨n,v⟩ hy=>by
    rcases S.par n (List.of_mem_zip hy).1 with q | q
    · exact .inl q
    · exact .inr ⟨q,PySem.W.cellsFrom_some _ _ _ (.inl q)⟩
  refine codeAny_call_function hr.depth (KX _ _ lk) rfl S.co S.gen rfl (PySem.W.codeRec_of KX hcd) (hb _ _ _ _ ?_)
  refine wpAny_newFunctionEnv_cells S.kind hkind fun env he s1 x=>?_
  subst he
  refine ⟨lim.keeps x.toInCall.keep,codeAny_func ?_⟩
  obtain ⟨t,ht,hq⟩:=hbody A outer s H vs Q E (hr.deeper _) hsp
  have I : Inv (z8q CX P w K mg base N qual scope f cdv A outer s H E) [] (z4K N vs) H s1:=y3O S hr.hd e0 hl r x
  refine wpAny_mono (ht [] s1 (z4K N vs) H _ I hq) (fun fl s' hs=>?_) fun e s' hs=>hs
  have fin : ∀ {σ' : St} {H' : Hp} {v : V} {u : Value},Inv (z8q CX P w K mg base N qual scope f cdv A outer s H E) [] σ' H' s'->RelV v u->Q v H'->CE outer P w H s Q u s':=
    fun {σ' H' v u} J rv q=>⟨v,H',J.os,J.bare,J.base,J.hok,rv,q⟩
  cases fl with
  | ret u=>
    obtain ⟨v,σ',H',J,rv,q⟩:=hs
    exact fin J rv q
  | next=>
    obtain ⟨σ',H',J,q⟩:=hs
    exact fin (v:=V.non) (u:=Value.none) J rfl q
  | brk=>
    obtain ⟨_,_,_,q⟩:=hs
    exact False.elim q
  | cont=>
    obtain ⟨_,_,_,q⟩:=hs
    exact False.elim q
end L2

namespace L2
open PySem PySem.Spec PyProof.Rows
section
variable {X : Cx} {x : Str} {p pos : Pos} {e : Expr} {es : List Expr} {t : TA} {id T : String} {r : List V->Hp->VK->Prop}

def tCB (r : List V->Hp->VK->Prop) (t : TA) : TE:=fun σ H Q=>t σ H fun vs H1=>r vs H1 Q
/-- f(e,..),f a built-in function -/
theorem z4S (hc : CallR X (.builtin id) r) (hg : Gl X x) (hm : X.mg x=none) (hv : bootBuiltins x=some (.builtin id)) (ha : PA X (e :: es) t) (hn : x ≠ "__name__" := by decide) (hdb : (x == ("__debug__" : Str))=false:=by decide)
    (he : starEach (e :: es) X.env=(false,eval e X.env) :: starEach es X.env:=by rfl) (hpl : (backTo pos (starEach es X.env)).any (·.1)=false:=by rfl) : PE X (.Call (.Name x p) (e :: es) [] pos) (tCB r t):=by
  intro pins s σ H Q I h
  refine wpAny_Call_Name_kw (z4Y I hg hm hv ?_ hn hdb)
  exact PyProof.Rows.callWith_builtin1 (thn (ha pos pins s σ H _ I h) fun us s1 ⟨vs,H1,I1,r1,q1⟩=>hc pins s1 σ H1 vs us Q I1 r1 q1) he hpl
/-- T(e,..),T a built-in type -/
theorem z4X (hc : CallR X (.type T) r) (hg : Gl X x) (hm : X.mg x=none) (hv : bootBuiltins x=some (.type T)) (ha : PA X (e :: es) t) (hn : x ≠ "__name__" := by decide) (hdb : (x == ("__debug__" : Str))=false:=by decide)
    (he : starEach (e :: es) X.env=(false,eval e X.env) :: starEach es X.env:=by rfl) (hpl : (backTo pos (starEach es X.env)).any (·.1)=false:=by rfl) : PE X (.Call (.Name x p) (e :: es) [] pos) (tCB r t):=by
  intro pins s σ H Q I h
  refine wpAny_Call_Name_kw (z4Y I hg hm hv ?_ hn hdb)
  exact PyProof.Rows.callWith_type1 (thn (ha pos pins s σ H _ I h) fun us s1 ⟨vs,H1,I1,r1,q1⟩=>hc pins s1 σ H1 vs us Q I1 r1 q1) he hpl
end
end L2

namespace HT
open PySem PyProof.Rows



section
open PySem.SeqAt
open PySem.AutoSeq1 (wpAny_loadPart')
open PySem.MeetsSeq PySem.MeetsSeq2 PySem.MeetsSeq3

end

section
variable {prog : Program} {w : World} {A : Around} {E : Value->Shared->Prop} {s : Shared}



/-! ### t[a:b],not the whole -/
/-- a slice's bound as a place among n (d where it is left out) -/
def sIx (n d : Nat) : Option Int->Nat
  | none=>d
  | some v=>if v < 0 then (v + (n : Int)).toNat else min v.toNat n
theorem z8K (n d k : Nat) : sIx n d (some (k : Int))=min k n:=by
  show (if (k : Int) < 0 then ((k : Int) + (n : Int)).toNat else min (k : Int).toNat n)=min k n
  rw [if_neg (by omega),Int.toNat_natCast]
theorem sIx_le (n d : Nat) (hd : d≤n) (o : Option Int) : sIx n d o≤n:=by
  cases o with
  | none=>exact hd
  | some v=>
    show (if v < 0 then (v + (n : Int)).toNat else min v.toNat n)≤n
    by_cases hv : v < 0
    · rw [if_pos hv]; omega
    · rw [if_neg hv]; exact Nat.min_le_right _ _
theorem y2w (v : Int) (n d : Nat) : (if v < 0 then max (v + (n : Int)) 0 else min v (n : Int))=((sIx n d (some v) : Nat) : Int):=by
  show (if v < 0 then max (v + (n : Int)) 0 else min v (n : Int))=(((if v < 0 then (v + (n : Int)).toNat else min v.toNat n) : Nat) : Int)
  by_cases hv : v < 0
  · simp only [if_pos hv]; omega
  · simp only [if_neg hv]; omega
theorem y0V (lo hi : Option Int) (n : Nat) : Builtin.Slice.sliceAdjust lo hi 1 (n : Int)=(((sIx n 0 lo : Nat) : Int),((sIx n n hi : Nat) : Int)):=by
  have h1 : ¬ ((1 : Int) < 0):=by omega
  unfold Builtin.Slice.sliceAdjust
  simp only [h1,if_false]
  refine Prod.ext ?_ ?_
  · cases lo with
    | none=>rfl
    | some v=>exact y2w v n 0
  · cases hi with
    | none=>rfl
    | some v=>exact y2w v n n
theorem y0O (i j : Nat) : Builtin.Slice.slicePlaces (i : Int) (j : Int) 1=j - i:=by
  unfold Builtin.Slice.slicePlaces
  have h1 : (1 : Int) > 0:=by omega
  simp only [h1,if_true,Int.ediv_one]
  split <;> omega
theorem z6e {v : Value} {o : Option Int} {Q : Option Int->Shared->Prop} (p : IsPart v o) (h : Q o s) : wpAny (model prog w) A (Builtin.Slice.slicePartIndex v) Q E s:=by
  cases p with
  | none=>exact slicePart_none h
  | int i t=>exact slicePart_int h
theorem z2O {sl : Addr} {vl vu : Value} {lo hi : Option Int} {n : Nat} {Q : Int × Int × Nat->Shared->Prop} (hs : s.heap.IsSliceOf sl vl vu .none) (pl : IsPart vl lo) (pu : IsPart vu hi)
    (h : Q (((sIx n 0 lo : Nat) : Int),1,sIx n n hi - sIx n 0 lo) s) : wpAny (model prog w) A (Builtin.Slice.sliceApplied (.ref sl) (pure (n : Int))) Q E s:=by
  obtain ⟨os,hos,hcs,hds⟩:=id hs
  unfold Builtin.Slice.sliceApplied Builtin.Slice.sliceFields
  refine wpAny_bind (wpAny_bind (wpAny_field hos hds (x:=vl) rfl (wpAny_bind (wpAny_field hos hds (x:=vu) rfl (wpAny_bind (wpAny_field hos hds (x:=.none) rfl (wpAny_pure ?_)))))))
  refine wpAny_bind (slicePart_none ?_)
  show wpAny _ _ (if ((1 : Int) == 0)=true then _ else _) _ _ s
  rw [if_neg (by decide)]
  refine wpAny_bind (z6e pl (wpAny_bind (z6e pu (wpAny_bind (wpAny_pure ?_)))))
  show wpAny _ _ (match Builtin.Slice.sliceAdjust lo hi 1 (n : Int) with | (lo,hi)=>pure (lo,(1 : Int),Builtin.Slice.slicePlaces lo hi 1)) _ _ s
  rw [y0V lo hi n]
  show wpAny _ _ (pure (((sIx n 0 lo : Nat) : Int),(1 : Int),Builtin.Slice.slicePlaces ((sIx n 0 lo : Nat) : Int) ((sIx n n hi : Nat) : Int) 1)) _ _ s
  rw [y0O]
  exact wpAny_pure h
theorem y6A (xs : Array Value) (i k : Nat) : ((List.range k).filterMap fun (m : Nat)=>xs[((i : Int) + (m : Int) * 1).toNat]?).toArray=((xs.toList.drop i).take k).toArray:=by
  have e : (fun (m : Nat)=>xs[((i : Int) + (m : Int) * 1).toNat]?)=fun m=>xs[i + m]?:=by
    funext m
    have : ((i : Int) + (m : Int) * 1).toNat=i + m:=by omega
    rw [this]
  rw [e]
  have:=pick_run xs i k
  rw [List.filterMap_map] at this
  have e2 : ((fun x=>xs[x]?) ∘ fun x=>i + x)=fun m=>xs[i + m]?:=rfl
  rw [e2] at this
  rw [this]

theorem getItem_tuple_cut {t sl : Addr} {items : Array Value} {vl vu : Value} {lo hi : Option Int} {Q : Value->Shared->Prop} (ht : IsTup s.heap t items) (hs : s.heap.IsSliceOf sl vl vu .none) (pl : IsPart vl lo) (pu : IsPart vu hi)
    (hw : ¬ (sIx items.size 0 lo=0∧sIx items.size items.size hi=items.size))
    (h : Q (.ref s.heap.objs.size) { s with heap:=s.heap.push { cls:=.type "tuple",data:=.seq ((items.toList.drop (sIx items.size 0 lo)).take (sIx items.size items.size hi - sIx items.size 0 lo)).toArray } })
    (hsz : items.size≤sizeLine) : wpAny (model prog w) A (getItem (.ref t) (.ref sl)) Q E s:=by
  have htake : sizeOk (.seq ((items.toList.drop (sIx items.size 0 lo)).take (sIx items.size items.size hi - sIx items.size 0 lo)).toArray):=by
    show ((items.toList.drop (sIx items.size 0 lo)).take (sIx items.size items.size hi - sIx items.size 0 lo)).toArray.size≤sizeLine
    rw [List.size_toArray,List.length_take,List.length_drop,Array.length_toList]
    omega
  have hj : sIx items.size items.size hi≤items.size:=sIx_le _ _ (Nat.le_refl _) hi
  obtain ⟨os,hos,hcs,hds⟩:=id hs
  have hTs : s.TypeIs (.ref sl) "slice" := ⟨os,hos,hcs⟩
  unfold getItem
  try with_reducible refine wpAny_holding ?_
  first | refine wpAny_bind (wpAny_pure ?_) | skip
  refine wpAny_bind (wpAny_sequenceKey ht.typeIs (by decide) ?_)
  refine wpAny_bind (wpAny_callSpecial?_slot (name:=Str.ofString "__getitem__") ht.typeIs PyProof.Rows.slot_tuple_getitem
    (wpAny_call_entry PyProof.Rows.slot_tuple_getitem ht.typeIs entry_tuple_getitem ?_ (args_tuple_getitem _ _)))
  show wpAny _ _ (Builtin.Tuple.tupleItemsOf (.ref t) >>= _) _ _ s
  refine wpAny_bind (tupleItemsOf_ ht ?_)
  refine wpAny_bind (wpAny_typeOf hTs ?_)
  rw [if_pos (by decide)]
  refine wpAny_bind (z2O hs pl pu ?_)
  have hno : ¬ ((((sIx items.size 0 lo : Nat) : Int) == 0 && (1 : Int) == 1 && (sIx items.size items.size hi - sIx items.size 0 lo) == items.size)=true):=by
    intro q
    rw [Bool.and_eq_true,Bool.and_eq_true] at q
    have q1 : ((sIx items.size 0 lo : Nat) : Int)=0:=eq_of_beq q.1.1
    have q2 : sIx items.size items.size hi - sIx items.size 0 lo=items.size:=eq_of_beq q.2
    exact hw ⟨by omega,by omega⟩
  show wpAny _ _ (if (((sIx items.size 0 lo : Nat) : Int) == 0 && (1 : Int) == 1 && (sIx items.size items.size hi - sIx items.size 0 lo) == items.size)=true then _ else _) _ _ s
  rw [if_neg hno,y6A]
  first
    | exact wpAny_bind (m:=Builtin.Tuple.tupleExact _) (wpAny_newObj_type (wpAny_pure ⟨_,rfl,wpAny_pure h⟩) htake)
    | exact wpAny_bind (m:=Builtin.Tuple.tupleExact _) (wpAny_newObj_type (wpAny_bind (wpAny_pure (wpAny_pure ⟨_,rfl,wpAny_pure h⟩))) htake)
    | exact wpAny_bind (wpAny_bind (m:=Builtin.Tuple.tupleExact _) (wpAny_newObj_type (wpAny_pure (wpAny_pure ⟨_,rfl,wpAny_pure h⟩)) htake))
    | exact wpAny_bind (wpAny_bind (m:=Builtin.Tuple.tupleExact _) (wpAny_newObj_type (wpAny_pure ⟨_,rfl,wpAny_pure h⟩) htake))
end
end HT

namespace L2
open PySem PySem.Spec PyProof.Rows

/-! ### the parts of a slice -/
abbrev TO:=St->Hp->(Option Int->Hp->Prop)->Prop
/-- a slice's part (left out,or an int) -/
def PO (X : Cx) (e : Option Expr) (t : TO) : Prop:=
  ∀ (pins : List (Addr × Obj)) (s : Shared) (σ : St) (H : Hp) (Q : Option Int->Hp->Prop),Inv X pins σ H s->t σ H Q →
    wpAny (model X.prog X.w) X.A (evalPart e X.env) (fun u s'=>∃ o H',Inv X pins σ H' s'∧IsPart u o∧Q o H') X.xe s
def tNoPart : TO:=fun _ H Q=>Q none H
def tPart (t : TE) : TO:=fun σ H Q=>t σ H fun x H1=>∃ i,x = .int i∧Q (some i) H1

theorem z4z {ns : List Int} : ∀ {us : List Value},Vals (ns.map V.int) us->IntsAre us ns:=by
  induction ns with
  | nil=>intro us r; rw [List.map_nil] at r; cases r; exact .nil
  | cons n ns ih=>
    intro us r
    rw [List.map_cons] at r
    cases r with
    | cons r1 r2=>
      obtain ⟨t,e⟩:=r1
      subst e
      exact .cons n t (ih r2)

section
variable {X : Cx} {e : Expr} {te : TE} {lo hi : Option Expr} {tl th : TO} {pos p2 : Pos}

theorem po_none : PO X none tNoPart:=by
  intro pins s σ H Q I h
  rw [evalPart_none]
  exact wpAny_pure ⟨none,H,I,.none,h⟩
theorem po_some (h : PE X e te) : PO X (some e) (tPart te):=by
  intro pins s σ H Q I hw
  rw [evalPart_some]
  refine thn (h pins s σ H _ I hw) fun u s1 ⟨x,H1,I1,r1,q1⟩=>?_
  obtain ⟨i,rfl,q⟩:=q1
  obtain ⟨t,rfl⟩:=r1
  exact ⟨some i,H1,I1,.int i t,q⟩

/-- what a slice of a value is,by values: the slice object stands at sl -/
def SlR (X : Cx) (r : V->Option Int->Option Int->Hp->VK->Prop) : Prop:=
  ∀ (pins : List (Addr × Obj)) (s : Shared) (σ : St) (H : Hp) (x : V) (v vl vu : Value) (lo hi : Option Int) (sl : Addr) (Q : VK),Inv X pins σ H s->RelV x v->s.heap.IsSliceOf sl vl vu .none->IsPart vl lo->IsPart vu hi->r x lo hi H Q →
    ∃ T id,typeLookup (.type T) "__getitem__" = pure (some (.builtin id))∧s.TypeIs v T∧wpAny (model X.prog X.w) X.A (getItem v (.ref sl)) (EP X pins σ Q) X.xe s
theorem SlR.or {r r' : V->Option Int->Option Int->Hp->VK->Prop} (h : SlR X r) (h' : SlR X r') : SlR X (fun x lo hi H Q=>r x lo hi H Q∨r' x lo hi H Q):=by
  intro pins s σ H x v vl vu lo hi sl Q I rx hs pl pu q
  rcases q with q | q
  · exact h pins s σ H x v vl vu lo hi sl Q I rx hs pl pu q
  · exact h' pins s σ H x v vl vu lo hi sl Q I rx hs pl pu q
def tSl (r : V->Option Int->Option Int->Hp->VK->Prop) (te : TE) (tl th : TO) : TE:=fun σ H Q=>te σ H fun x H1=>tl σ H1 fun l H2=>th σ H2 fun u H3=>r x l u H3 Q
/-- a[lo:hi],any a -/
theorem z9n {r : V->Option Int->Option Int->Hp->VK->Prop} (hr : SlR X r) (he : PE X e te) (hl : PO X lo tl) (hu : PO X hi th) : PE X (.Subscript e (.Slice lo hi none p2) pos) (tSl r te tl th):=by
  intro pins s σ H Q I h
  refine Subscript_ (thn (he pins s σ H _ I h) fun v s1 ⟨x,H1,I1,r1,q1⟩=>?_)
  refine wpAny_Slice (thn (hl pins s1 σ H1 _ I1 q1) fun vl s2 ⟨l,H2,I2,pl,q2⟩=>thn (hu pins s2 σ H2 _ I2 q2) fun vu s3 ⟨u,H3,I3,pu,q3⟩=>?_)
  rw [evalPart_none]
  refine wpAny_pure ?_
  have I4 : Inv X pins σ H3 { s3 with heap:=s3.heap.push { cls:=.type "slice",data:=.fields #[vl,vu,.none] } }:=I3.kept (t':=s3.toks) fun b ob q=>Heap.get?_push_of_some _ q
  obtain ⟨T,id,hT,ht,hg⟩:=hr pins { s3 with heap:=s3.heap.push { cls:=.type "slice",data:=.fields #[vl,vu,.none] } } σ H3 x v vl vu l u s3.heap.objs.size Q I4 r1 (Heap.IsSliceOf.new ..) pl pu q3
  show wpAny (model X.prog X.w) X.A (subscriptTail e (.Slice lo hi none p2) v (.ref s3.heap.objs.size)) (EP X pins σ Q) X.xe { s3 with heap:=s3.heap.push { cls:=.type "slice",data:=.fields #[vl,vu,.none] } }
  exact tail_any (ops:=[.ref s3.heap.objs.size,v]) ht hT hg (by with_unfolding_all rfl)

/-- the items of xs[lo:hi] -/
def y1n (xs : List V) (lo hi : Option Int) : List V:=(xs.drop (HT.sIx xs.length 0 lo)).take (HT.sIx xs.length xs.length hi - HT.sIx xs.length 0 lo)
theorem z5a (xs : List V) (lo hi : Option Int) : (y1n xs lo hi).length≤xs.length:=by
  unfold y1n
  rw [List.length_take,List.length_drop]
  omega

/-! ### t < u,t + u -/
end
end L2

namespace L2
open PySem PySem.Spec PyProof.Rows

/-! ### places -/
/-- the place that an index of any sign means -/
def ixN (n : Nat) (i : Int) : Option Nat:=if 0≤i then (if i < n then some i.toNat else none) else if -(n : Int)≤i then some (i + n).toNat else none
def atI {α : Type} (xs : List α) (i : Int) : Option α:=(ixN xs.length i).bind fun j=>xs[j]?
theorem y3V {n : Nat} {i : Int} {j : Nat} (h : ixN n i=some j) : seqIndex? i n=some j∧j < n∧-(n : Int)≤i∧i < n:=by
  unfold ixN at h
  by_cases h0 : 0≤i
  · rw [if_pos h0] at h
    by_cases h1 : i < n
    · rw [if_pos h1] at h
      have e : i.toNat=j:=Option.some.inj h
      exact ⟨by rw [seqIndex_of h0 h1,e],by omega,by omega,h1⟩
    · rw [if_neg h1] at h; cases h
  · rw [if_neg h0] at h
    by_cases h1 : -(n : Int)≤i
    · rw [if_pos h1] at h
      have e : (i + n).toNat=j:=Option.some.inj h
      exact ⟨by rw [seqIndex_neg (by omega) h1,e],by omega,h1,by omega⟩
    · rw [if_neg h1] at h; cases h
theorem z8V {α : Type} {xs : List α} {i : Int} {v : α} (h : atI xs i=some v) : ∃ j,seqIndex? i xs.length=some j∧xs[j]? = some v∧j < xs.length∧-(xs.length : Int)≤i∧i < xs.length:=by
  unfold atI at h
  cases e : ixN xs.length i with
  | none=>rw [e] at h; cases h
  | some j=>
    rw [e] at h
    obtain ⟨h1,h2,h3,h4⟩:=y3V e
    exact ⟨j,h1,h,h2,h3,h4⟩
theorem z0Z {α : Type} {xs : List α} {j : Nat} {v : α} (h : xs[j]? = some v) : atI xs (j : Int)=some v:=by
  have hj : j < xs.length:=(List.getElem?_eq_some_iff.mp h).1
  have e : ixN xs.length (j : Int)=some j:=by
    unfold ixN
    rw [if_pos (by omega),if_pos (by omega)]; simp
  unfold atI; rw [e]; exact h

/-! ### what may be subscripted -/
/-- what stands as an index of a plain subscript -/
def z6x (b : Expr) : Prop:=∀ o i,subscripted b false o i=operate [o,i] (getItem o i)
/-- a subscript by values -/
def IxR (X : Cx) (r : R2) : Prop:=
  ∀ (value slice : Expr) (pins : List (Addr × Obj)) (s : Shared) (σ : St) (H : Hp) (x y : V) (v u : Value) (Q : VK),Inv X pins σ H s->RelV x v->RelV y u->r x y H Q →
    subscripted slice false v u=operate [v,u] (getItem v u)->wpAny (model X.prog X.w) X.A (subscriptTail value slice v u) (EP X pins σ Q) X.xe s
/-- a call of a builtin's method by values: the receiver,the arguments -/
def MtR (X : Cx) (id : String) (r : V->List V->Hp->VK->Prop) : Prop:=
  ∀ (pins : List (Addr × Obj)) (s : Shared) (σ : St) (H : Hp) (x : V) (xs : List V) (v : Value) (us : List Value) (Q : VK),Inv X pins σ H s->RelV x v->Vals xs us->r x xs H Q →
    wpAny (model X.prog X.w) X.A (call (.builtin id) (v :: us)) (EP X pins σ Q) X.xe s
section
variable {X : Cx} {a b : Expr} {ta tb : TE} {pos : Pos}
theorem IxR.or {r r' : R2} (h : IxR X r) (h' : IxR X r') : IxR X (fun x y H Q=>r x y H Q∨r' x y H Q):=by
  intro value slice pins s σ H x y v u Q I rx ry q hs
  rcases q with q | q
  · exact h value slice pins s σ H x y v u Q I rx ry q hs
  · exact h' value slice pins s σ H x y v u Q I rx ry q hs
theorem MtR.or {id : String} {r r' : V->List V->Hp->VK->Prop} (h : MtR X id r) (h' : MtR X id r') : MtR X id (fun x xs H Q=>r x xs H Q∨r' x xs H Q):=by
  intro pins s σ H x xs v us Q I rx rs q
  rcases q with q | q
  · exact h pins s σ H x xs v us Q I rx rs q
  · exact h' pins s σ H x xs v us Q I rx rs q
/-- a[b] -/
theorem pe_ix {r : R2} (hr : IxR X r) (ha : PE X a ta) (hb : PE X b tb) (hs : z6x b) : PE X (.Subscript a b pos) (tOp r ta tb):=by
  intro pins s σ H Q I h
  exact Subscript_ (binT ha hb I h fun v u s2 x y H2 I2 rx ry q=>hr a b pins s2 σ H2 x y v u Q I2 rx ry q (hs _ _))

def rIxL (K : PySem.W.Frag) : R2:=fun x y H Q=>∃ p xs i v,x = .ref p∧y = .int i∧SqL K H p xs∧atI xs i=some v∧Q v H
def rIxT (K : PySem.W.Frag) : R2:=fun x y H Q=>∃ p xs i v,x = .ref p∧y = .int i∧SqT K H p xs∧atI xs i=some v∧Q v H
def rIxS : R2:=fun x y H Q=>∃ z i c,x = .str z∧y = .int i∧z.length≤sizeLine∧atI z.cps.toList i=some c∧Q (.str ⟨#[c]⟩) H
theorem ix_list : IxR X (rIxL X.K):=by
  intro value slice pins s σ H x y v u Q I rx ry h hs
  obtain ⟨p,xs,i,z,rfl,rfl,hq,he,q⟩:=h
  cases rx
  obtain ⟨t,rfl⟩:=ry
  obtain ⟨its,r,pl,hz⟩:=I.list hq
  obtain ⟨j,h1,h2,h3,h4,h5⟩:=z8V he
  obtain ⟨w,ew,rw'⟩:=r.get h2
  have hl:=r.length
  have hn:=z6f
  have fin : EP X pins σ Q w s:=⟨z,H,I,rw',q⟩
  by_cases h0 : 0≤i
  · have hj : i.toNat=j:=by
      rw [seqIndex_of h0 h5] at h1
      exact Option.some.inj h1
    exact item_listR pl.isList h0 (by omega) (by rw [hj]; simpa using ew) fin hs
  · have hj : (i + (its.toArray.size : Int)).toNat=j:=by
      rw [seqIndex_neg (by omega) h4] at h1
      rw [List.size_toArray,← hl]
      exact Option.some.inj h1
    exact subscriptTail_builtinR (x:=w) pl.isList.typeIs slot_list_getitem.lookup
      (wpAny_getItem_list_neg (Q:=fun r s'=>r=w∧EP X pins σ Q r s') pl.isList (by omega) (by rw [List.size_toArray] <;> omega) (by omega) (by rw [hj]; simpa using ew) ⟨rfl,fin⟩) hs
theorem ix_tup : IxR X (rIxT X.K):=by
  intro value slice pins s σ H x y v u Q I rx ry h hs
  obtain ⟨p,xs,i,z,rfl,rfl,hq,he,q⟩:=h
  cases rx
  obtain ⟨t,rfl⟩:=ry
  obtain ⟨its,r,pl,hz⟩:=I.tuple hq
  obtain ⟨j,h1,h2,h3,h4,h5⟩:=z8V he
  obtain ⟨w,ew,rw'⟩:=r.get h2
  have hl:=r.length
  have hn:=z6f
  have fin : EP X pins σ Q w s:=⟨z,H,I,rw',q⟩
  exact subscriptTail_builtinR (x:=w) pl.typeIs slot_tuple_getitem.lookup
    (getItem_tuple (j:=j) (Q:=fun r s'=>r=w∧EP X pins σ Q r s') pl (by omega) (by omega) (by rw [List.size_toArray,← hl]; exact h1) (by simpa using ew) ⟨rfl,fin⟩) hs
theorem ix_str : IxR X rIxS:=by
  intro value slice pins s σ H x y v u Q I rx ry h hs
  obtain ⟨z,i,c,rfl,rfl,hz,he,q⟩:=h
  obtain ⟨t,rfl⟩:=rx
  obtain ⟨t',rfl⟩:=ry
  obtain ⟨j,h1,h2,h3,h4,h5⟩:=z8V he
  have hl : z.cps.toList.length=z.length:=by simp [Str.length]
  rw [hl] at h1 h4 h5
  have hn:=z6f
  exact tail_any (typeIs_str s z t) slot_str_getitem.lookup (getItem_str (c:=c) (by
    have e1 : decide (i < -(2 ^ 63 : Int))=false:=decide_eq_false (by omega)
    have e2 : decide (i ≥ 2 ^ 63)=false:=decide_eq_false (by omega)
    rw [e1,e2,Bool.or_false]) (by rw [h1]; simpa using h2) ⟨.str ⟨#[c]⟩,H,I.tok _,⟨_,rfl⟩,q⟩) hs
/-- list,tuple or str -/
def rIx (K : PySem.W.Frag) : R2:=fun x y H Q=>rIxL K x y H Q∨rIxT K x y H Q∨rIxS x y H Q
theorem y7w : IxR X (rIx X.K):=ix_list.or (ix_tup.or ix_str)

/-! ### xs[i]=v,any sign -/
/-- the list's object behind a store -/
theorem y1i (its : List Value) (n j : Nat) (u : Value) : Obj.mapSeq (·.setIfInBounds j u) { cls:=.type "list",data:=.seq its.toArray n } = { cls:=.type "list",data:=.seq (its.set j u).toArray n }:=by
  simp [Obj.mapSeq]
theorem Inv.lst {pins : List (Addr × Obj)} {σ : St} {H : Hp} {s : Shared} {p : Addr} {xs : List V} (I : Inv X pins σ H s) (h : H p=some (.lst xs)) :
    ∃ (its : List Value) (n : Nat),Vals xs its∧s.heap.get? p=some { cls:=.type "list",data:=.seq its.toArray n }∧xs.length≤sizeLine:=by
  obtain ⟨z,its,n,r,e⟩:=I.hok p _ h
  exact ⟨its,n,r,e,z⟩
/-- the list at p is written by an update of its object -/
theorem Inv.lstUpd {pins : List (Addr × Obj)} {σ : St} {H : Hp} {s : Shared} {p : Addr} {xs ys : List V} {its its' : List Value} {n n' : Nat} {f : Obj->Obj} (I : Inv X pins σ H s) (h : H p=some (.lst xs))
    (ho : s.heap.get? p=some { cls:=.type "list",data:=.seq its.toArray n }) (hf : f { cls:=.type "list",data:=.seq its.toArray n } = { cls:=.type "list",data:=.seq its'.toArray n' }) (r : Vals ys its') (hz : ys.length≤sizeLine) (t : Nat) :
    Inv X pins σ (upd H p (.lst ys)) { s with heap:=s.heap.update p f,toks:=t }:=by
  have e : (s.heap.update p f).get? p=some { cls:=.type "list",data:=.seq its'.toArray n' }:=by
    rw [Heap.get?_update_self f ho (by rw [hf] <;> rfl),hf]
  refine I.write (x:=p) (e:=p) (by rw [h]; trivial) (.inl rfl) (fun b u hb q=>(Heap.get?_update_other _ _ (Ne.symm hb)).trans q) ⟨_,e⟩ ?_
  exact ⟨hz,its',n',r,e⟩
def rSetL : V->V->V->Hp->(Hp->Prop)->Prop:=fun o i v H Q=>∃ p xs k j,o = .ref p∧i = .int k∧H p=some (.lst xs)∧ixN xs.length k=some j∧Q (upd H p (.lst (xs.set j v)))
theorem y5T : PSet X rSetL:=by
  intro pins s σ H o i v ov iv u Q I ro ri rv h
  obtain ⟨p,xs,k,j,rfl,rfl,hp,hj,q⟩:=h
  cases ro
  obtain ⟨t,rfl⟩:=ri
  obtain ⟨its,n,r,ho,hz⟩:=I.lst hp
  obtain ⟨h1,h2,h3,h4⟩:=y3V hj
  have hl:=r.length
  have hn:=z6f
  have I' : Inv X pins σ (upd H p (.lst (xs.set j v))) { s with heap:=s.heap.update p (Obj.mapSeq (·.setIfInBounds j u)) }:=
    I.lstUpd hp ho (y1i its n j u) (r.set rv j) (by rw [List.length_set]; exact hz) s.toks
  by_cases h0 : 0≤k
  · have hk : k.toNat=j:=by
      rw [seqIndex_of h0 h4] at h1
      exact Option.some.inj h1
    exact PySem.W.ki_setAt ho h0 (by omega) (by rw [List.size_toArray,← hl]; exact h4) (by rw [hk]; exact ⟨_,I',q⟩)
  · have hk : (k + (its.toArray.size : Int)).toNat=j:=by
      rw [seqIndex_neg (by omega) h3] at h1
      rw [List.size_toArray,← hl]
      exact Option.some.inj h1
    exact PySem.W.ki_setBack ho (by omega) (by rw [List.size_toArray,← hl]; exact h3) (by omega) (by rw [hk]; exact ⟨_,I',q⟩)

/-! ### slices -/
theorem z7s (lo hi : Option Int) (n : Nat) : (sliceBounds lo hi none n).1=((HT.sIx n 0 lo : Nat) : Int)∧(sliceBounds lo hi none n).2.1=((HT.sIx n n hi : Nat) : Int)∧(sliceBounds lo hi none n).2.2=1:=by
  refine ⟨?_,?_,rfl⟩
  · cases lo with
    | none=>simp [sliceBounds,HT.sIx]
    | some i=>
      simp only [sliceBounds,HT.sIx,Option.getD_none,show (1 : Int) > 0 by decide,if_true]
      by_cases h : i < 0
      · simp only [h,if_true] <;> omega
      · simp only [h,if_false] <;> omega
  · cases hi with
    | none=>simp [sliceBounds,HT.sIx]
    | some i=>
      simp only [sliceBounds,HT.sIx,Option.getD_none,show (1 : Int) > 0 by decide,if_true]
      by_cases h : i < 0
      · simp only [h,if_true] <;> omega
      · simp only [h,if_false] <;> omega
theorem z6D (its : List Value) (lo hi : Option Int) : slicePick its.toArray lo hi none=((its.drop (HT.sIx its.length 0 lo)).take (HT.sIx its.length its.length hi - HT.sIx its.length 0 lo)).toArray:=by
  obtain ⟨h1,h2,h3⟩:=z7s lo hi its.toArray.size
  unfold slicePick
  rw [h1,h2,h3]
  simp only [sliceRange_one,pick_run,List.size_toArray] <;> rfl
/-- xs[lo:hi] of a list: a new list -/
def rSlL (K : PySem.W.Frag) : V->Option Int->Option Int->Hp->VK->Prop:=fun x lo hi H Q=>∃ a xs,x = .ref a∧SqL K H a xs∧∀ p,H p=none->Q (.ref p) (upd H p (.lst (y1n xs lo hi)))
theorem sl_list : SlR X (rSlL X.K):=by
  intro pins s σ H x v vl vu lo hi sl Q I rx hs pl pu h
  obtain ⟨a,xs,rfl,hx,q⟩:=h
  cases rx
  obtain ⟨its,r,ht,hz⟩:=I.list hx
  have hlen:=r.length
  refine ⟨"list",_,slot_list_getitem.lookup,ht.isList.typeIs,?_⟩
  refine wpAny_getItem_list_slice ht.isList hs pl pu .none (by simp) ?_ (by rw [List.size_toArray] <;> omega)
  rw [z6D,← hlen]
  refine ⟨.ref s.heap.objs.size,_,I.laid (t':=s.toks) (o:=.lst (y1n xs lo hi)) (fun b ob q=>Heap.get?_push_of_some _ q) (Nat.le_refl _) ?_,rfl,q _ (I.hok.fresh (Nat.le_refl _))⟩
  exact ⟨Nat.le_trans (z5a xs lo hi) hz,_,0,(r.drop (HT.sIx xs.length 0 lo)).take (HT.sIx xs.length xs.length hi - HT.sIx xs.length 0 lo),Heap.get?_push_size _ rfl⟩

/-! ### in,not in: flat items -/

/-! ### len,list(x),tuple(x) of any list or tuple that is read -/
theorem CallR.or {f : Value} {r r' : List V->Hp->VK->Prop} (h : CallR X f r) (h' : CallR X f r') : CallR X f (fun xs H Q=>r xs H Q∨r' xs H Q):=by
  intro pins s σ H xs us Q I rs q
  rcases q with q | q
  · exact h pins s σ H xs us Q I rs q
  · exact h' pins s σ H xs us Q I rs q
theorem z7z : CallR X (.type "list") (fun xs H Q=>∃ p ys,xs=[.ref p]∧(SqL X.K H p ys∨SqT X.K H p ys)∧∀ l,H l=none->Q (.ref l) (upd H l (.lst ys))):=by
  intro pins s σ H xs us Q I r h
  obtain ⟨p,ys,rfl,hq,q⟩:=h
  obtain ⟨u,rfl,rx⟩:=z5o r
  cases rx
  have fin : ∀ (its : List Value),Vals ys its->ys.length≤sizeLine->∀ (h' : Heap) (c' : Nat),(∀ b o',s.heap.get? b=some o'->h'.get? b=some o') →
      h'.get? s.heap.objs.size=some { cls:=.type "list",dict:=none,data:=.seq its.toArray c',slots:=#[] }->EP X pins σ Q (.ref s.heap.objs.size) { s with heap:=h' }:=fun its r' hz h' c' kp e=>
    ⟨.ref s.heap.objs.size,_,I.laid (t':=s.toks) kp (Nat.le_refl _) (show ObjOk X.prog X.w _ h' _ (.lst ys) from ⟨hz,its,c',r',e⟩),rfl,q _ (I.hok.fresh (Nat.le_refl _))⟩
  rcases hq with hq | hq
  · obtain ⟨its,r',pl,hz⟩:=I.list hq
    have hlen:=r'.length
    obtain ⟨o,ho,hc,n,hd⟩:=pl.isList
    exact call_list_seq p (.inl rfl) ho hc hd (fun h' c' kp e=>fin its r' hz h' c' kp e) (by simp only [List.size_toArray] <;> omega)
  · obtain ⟨its,r',pl,hz⟩:=I.tuple hq
    have hlen:=r'.length
    obtain ⟨o,ho,hc,n,hd⟩:=pl
    exact call_list_seq p (.inr rfl) ho hc hd (fun h' c' kp e=>fin its r' hz h' c' kp e) (by simp only [List.size_toArray] <;> omega)
theorem z6P : CallR X (.type "tuple") (fun xs H Q=>∃ p ys,xs=[.ref p]∧((SqL X.K H p ys∧∀ l,H l=none->Q (.ref l) (upd H l (.tup ys)))∨(SqT X.K H p ys∧Q (.ref p) H))):=by
  intro pins s σ H xs us Q I r h
  obtain ⟨p,ys,rfl,h⟩:=h
  obtain ⟨u,rfl,rx⟩:=z5o r
  cases rx
  rcases h with ⟨hq,q⟩ | ⟨hq,q⟩
  · obtain ⟨its,r',pl,hz⟩:=I.list hq
    have hlen:=r'.length
    refine call_tuple_list pl.isList (fun h' kp=>?_) (by simp only [List.size_toArray] <;> omega)
    have I1 : Inv X pins σ H { s with heap:=h' }:=I.kept (t':=s.toks) kp
    have I2 : Inv X pins σ (upd H h'.objs.size (.tup ys)) { s with heap:=h'.push { cls:=.type "tuple",data:=.seq its.toArray } }:=
      I1.laid (t':=s.toks) (fun b o e=>Heap.get?_push_of_some _ e) (Nat.le_refl _) (show ObjOk X.prog X.w _ _ _ (.tup ys) from ⟨hz,its,r',TupN.new _ _⟩)
    exact ⟨.ref h'.objs.size,_,I2,rfl,q _ (I1.hok.fresh (Nat.le_refl _))⟩
  · obtain ⟨its,r',pl,hz⟩:=I.tuple hq
    exact call_tuple_same pl ⟨.ref p,H,I,rfl,q⟩

/-! ### the call of a builtin's method: o.m(..) -/
/-- the value is of that builtin type -/
def tyV (K : PySem.W.Frag) (T : String) (x : V) (H : Hp) : Prop:=match x with
  | .str _=>T = "str"
  | .int _=>T = "int"
  | .ref p=>(T = "list" ∧ ∃ xs,SqL K H p xs)∨(T = "tuple" ∧ ∃ o,K.lookup p=some o∧o.cls = .type "tuple" ∧ o.dict=none) ∨
      (T = "dict" ∧ ((∃ kvs,H p=some (.dK kvs))∨∃ kvs,H p=some (.dT kvs)))∨(T = "set" ∧ ∃ S n,H p=some (.set S n))
  | _=>False
theorem tyV_is {pins : List (Addr × Obj)} {σ : St} {H : Hp} {s : Shared} {T : String} {x : V} {v : Value} (I : Inv X pins σ H s) (r : RelV x v) (ty : tyV X.K T x H) :
    s.TypeIs v T∧∀ a,v = .ref a->∃ ob,s.heap.get? a=some ob∧ob.dict=none:=by
  cases x with
  | str z=>
    obtain ⟨t,rfl⟩:=r
    cases (show T = "str" from ty)
    exact ⟨typeIs_str s z t,fun _ e=>nomatch e⟩
  | int i=>
    obtain ⟨t,rfl⟩:=r
    cases (show T = "int" from ty)
    exact ⟨typeIs_int s i t,fun _ e=>nomatch e⟩
  | ref p=>
    cases r
    rcases ty with ⟨rfl,xs,hq⟩ | ⟨rfl,o,hk,hc,hd⟩ | ⟨rfl,hk⟩ | ⟨rfl,S,n,hk⟩
    · obtain ⟨its,_,pl,_⟩:=I.list hq
      refine ⟨pl.isList.typeIs,fun a e=>?_⟩
      cases e
      obtain ⟨o,n,e,c,hd,_⟩:=pl
      exact ⟨o,e,hd⟩
    · refine ⟨⟨o,I.kIn p o hk,hc⟩,fun a e=>?_⟩
      cases e
      exact ⟨o,I.kIn _ o hk,hd⟩
    · have z : ∃ o,s.heap.get? p=some o∧o.ExactDict:=by
        rcases hk with ⟨kvs,hk⟩ | ⟨kvs,hk⟩
        · obtain ⟨_,_,_,_,o,_,_,e,ex,_⟩:=I.hok p _ hk
          exact ⟨o,e,ex⟩
        · obtain ⟨_,_,_,_,o,_,_,e,ex,_⟩:=I.hok p _ hk
          exact ⟨o,e,ex⟩
      obtain ⟨o,e,ex⟩:=z
      refine ⟨⟨o,e,ex.1⟩,fun a e2=>?_⟩
      cases e2
      exact ⟨o,e,ex.2.1⟩
    · obtain ⟨o,_,_,_,e,ex,_⟩:=I.hok p _ hk
      refine ⟨⟨o,e,ex.1⟩,fun a e2=>?_⟩
      cases e2
      exact ⟨o,e,ex.2.1⟩
  | _=>exact False.elim ty
def tBM (K : PySem.W.Frag) (T : String) (r : V->List V->Hp->VK->Prop) (to : TE) (t : TA) : TE:=fun σ H Q=>to σ H fun x H1=>tyV K T x H1∧t σ H1 fun xs H2=>r x xs H2 Q
variable {o e : Expr} {es : List Expr} {to : TE} {t : TA} {name : Str} {apos cpos : Pos} {T id : String} {r : V->List V->Hp->VK->Prop}
theorem y6R (pa : PlainAttrs T) (slot : Slot T name id) (hty : typeOf (.builtin id)=pure (.type "method_descriptor")) (hm : MtR X id r) (ho : PE X o to) (ha : PA X (e :: es) t)
    (hbase : attributeBase o name X.env (eval o X.env)=eval o X.env:=by rfl)
    (hfew : ((backTo cpos (starEach (e :: es) X.env)).all (fun x=>!x.1) && (backToKw cpos (keywordEach [] X.env)).all (fun x=>x.1.isSome)
      && decide ((e :: es).length + ([] : List Keyword).length + (if ([] : List Keyword).isEmpty then 0 else 1) < 30))=true:=by rfl)
    (hline : (apos.endLine == cpos.line)=true:=by rfl) (hs : starEach (e :: es) X.env=(false,eval e X.env) :: starEach es X.env:=by rfl) (hplain : (backTo cpos (starEach es X.env)).any (·.1)=false:=by rfl) :
    PE X (.Call (.Attribute o name apos) (e :: es) [] cpos) (tBM X.K T r to t):=by
  intro pins s σ H Q I h
  refine wpAny_Call_method_late hbase hfew hline rfl (thn (ho pins s σ H _ I h) fun v s1 ⟨x,H1,I1,r1,ty,q1⟩=>?_)
  obtain ⟨h1,h2⟩:=tyV_is I1 r1 ty
  refine ⟨T,id,pa,slot,hty,h1,h2,?_⟩
  have hA:=ha cpos pins s1 σ H1 _ I1 q1
  rw [hs] at hA ⊢
  refine Calls.callWith_builtin (by show (false || (backTo cpos (starEach es X.env)).any (·.1))=false; rw [hplain] <;> rfl) (Calls.evalArgs_plain ?_)
  exact thn hA fun us s2 ⟨vs,H2,I2,r2,q2⟩=>hm pins s2 σ H2 x vs v us Q I2 r1 r2 q2
/- xs.append(e),list.index on a module's tuple .. are MtR facts of 06m -/
end
end L2

namespace L2
open PySem PySem.Spec PyProof.Rows

def MtM (X : Cx) (id : String) (r : V->List V->Hp->VK->Prop) : Prop:=
  ∀ (pins : List (Addr × Obj)) (s : Shared) (σ : St) (H : Hp) (x : V) (xs : List V) (v : Value) (us : List Value) (Q : VK),Inv X pins σ H s->RelV x v->Vals xs us->r x xs H Q →
    wpAny (model X.prog X.w) X.A (call (.builtin id) (v :: us)) (EP X pins σ Q) X.xe s

/-! ### lists of values -/
theorem Vals.one : ∀ {x : V} {us : List Value},Vals [x] us->∃ u,us=[u]∧RelV x u
  | _,_,.cons r .nil=>⟨_,rfl,r⟩
theorem Vals.two : ∀ {x y : V} {us : List Value},Vals [x,y] us->∃ u v,us=[u,v]∧RelV x u∧RelV y v
  | _,_,_,.cons r (.cons q .nil)=>⟨_,_,rfl,r,q⟩
theorem Vals.zero : ∀ {us : List Value},Vals [] us->us=[]
  | _,.nil=>rfl
theorem Vals.dropLast {xs : List V} {us : List Value} (h : Vals xs us) : Vals xs.dropLast us.dropLast:=by
  induction h with
  | nil=>exact .nil
  | cons r t ih=>
    cases t with
    | nil=>exact .nil
    | cons q t'=>exact .cons r ih
theorem Vals.reverse {xs : List V} {us : List Value} (h : Vals xs us) : Vals xs.reverse us.reverse:=by
  induction h with
  | nil=>exact .nil
  | cons r t ih=>rw [List.reverse_cons,List.reverse_cons]; exact Vals.append ih (.cons r .nil)
theorem Vals.rep {xs : List V} {us : List Value} (h : Vals xs us) : ∀ k : Nat,Vals (List.replicate k xs).flatten (List.replicate k us).flatten
  | 0=>.nil
  | k + 1=>by
    rw [List.replicate_succ,List.replicate_succ,List.flatten_cons,List.flatten_cons]
    exact Vals.append h (Vals.rep h k)

section
variable {X : Cx} {pins : List (Addr × Obj)} {σ : St} {H : Hp} {s : Shared} {l b : Addr} {xs ys zs : List V}

/-! ### the two steps: a tracked list is rewritten,a new list is laid -/
theorem Inv.lset {its its' : List Value} {n : Nat} {f : Array Value->Array Value} {t' : Nat} (I : Inv X pins σ H s) (hH : H l=some (.lst xs))
    (e : s.heap.get? l=some { cls:=.type "list",data:=.seq its.toArray n }) (hf : f its.toArray=its'.toArray) (hv : Vals ys its') (hz : ys.length≤sizeLine) :
    Inv X pins σ (upd H l (.lst ys)) { s with heap:=s.heap.update l (Obj.mapSeq f),toks:=t' }:=by
  have q:=PySem.IsL.update e f
  rw [hf] at q
  refine I.write (x:=l) (e:=l) (by rw [hH]; exact trivial) (.inl rfl) (fun b' u hb hu=>(Heap.get?_update_other s.heap (Obj.mapSeq f) (Ne.symm hb)).trans hu) ⟨_,q⟩ ?_
  exact ⟨hz,its',_,hv,q⟩
theorem Inv.lnew {its : List Value} {t' : Nat} (I : Inv X pins σ H s) (hv : Vals ys its) (hz : ys.length≤sizeLine) :
    Inv X pins σ (upd H s.heap.objs.size (.lst ys)) { s with heap:=s.heap.push { cls:=.type "list",data:=.seq its.toArray },toks:=t' }:=
  I.laid (fun _ _ q=>Heap.get?_push_of_some _ q) (Nat.le_refl _) ⟨hz,its,0,hv,Heap.get?_push_size _ rfl⟩
theorem Inv.fresh (I : Inv X pins σ H s) : H s.heap.objs.size=none:=I.hok.fresh (Nat.le_refl _)
theorem Inv.lstM (I : Inv X pins σ H s) (hH : H l=some (.lst xs)) : xs.length≤sizeLine∧∃ (its : List Value) (n : Nat),Vals xs its∧xs.length=its.length∧s.heap.get? l=some { cls:=.type "list",data:=.seq its.toArray n }:=by
  obtain ⟨z,its,n,r,e⟩:=I.hok l _ hH
  exact ⟨z,its,n,r,r.length,e⟩

theorem y6V {n : Nat} (h : n≤sizeLine) : Builtin.List.listTooLong n=false:=by
  unfold Builtin.List.listTooLong
  exact decide_eq_false (by omega)
end

section
variable {X : Cx}

/-! ### methods -/
def z7b : V->List V->Hp->VK->Prop:=fun x vs H Q=>∃ l xs y,x = .ref l∧vs=[y]∧H l=some (.lst xs)∧xs.length < sizeLine∧Q .non (upd H l (.lst (xs ++ [y])))
theorem z2f : MtM X "list.append" z7b:=by
  intro pins s σ H x vs v us Q I rx rv h
  obtain ⟨l,xs,y,rfl,rfl,hH,hz,q⟩:=h
  cases rx
  obtain ⟨u,rfl,ru⟩:=rv.one
  obtain ⟨z,its,n,r,hl,e⟩:=I.lstM hH
  refine call_meets F.slot_list_append ⟨_,e,rfl⟩ F.entry_list_append (F.args_list_append_2 _ _) (PySem.list_append l its.toArray n u (by rw [List.size_toArray]; omega)) ⟨e,?_⟩
  refine ⟨.non,_,I.lset (its':=its ++ [u]) hH e (by simp) (r.append (.cons ru .nil)) ?_,rfl,q⟩
  rw [List.length_append,List.length_singleton]
  omega

def rExtend : V->List V->Hp->VK->Prop:=fun x vs H Q=>∃ l b xs zs,x = .ref l∧vs=[.ref b]∧H l=some (.lst xs)∧H b=some (.lst zs)∧xs.length + zs.length≤sizeLine∧Q .non (upd H l (.lst (xs ++ zs)))
theorem y2x : MtM X "list.extend" rExtend:=by
  intro pins s σ H x vs v us Q I rx rv h
  obtain ⟨l,b,xs,zs,rfl,rfl,hH,hB,hz,q⟩:=h
  cases rx
  obtain ⟨u,rfl,ru⟩:=rv.one
  cases ru
  obtain ⟨z,its,n,r,hl,e⟩:=I.lstM hH
  obtain ⟨z2,its2,n2,r2,hl2,e2⟩:=I.lstM hB
  have hsz : its.toArray.size + its2.toArray.size≤sizeLine:=by rw [List.size_toArray,List.size_toArray]; omega
  have hlong : ¬ (!its.toArray.isEmpty && Builtin.List.listTooLong (its.toArray.size + its2.toArray.size))=true:=by
    rw [y6V hsz,Bool.and_false]
    exact Bool.false_ne_true
  refine call_meets F.slot_list_extend ⟨_,e,rfl⟩ F.entry_list_extend (F.args_list_extend_2 _ _)
    (AutoSeq1.list_extend_list_list_0 l its.toArray n b its2.toArray n2 hlong (by rw [List.size_toArray]; omega) (by omega)) ⟨e,e2,?_⟩
  refine ⟨.non,_,I.lset (its':=its ++ its2) hH e (by simp) (r.append r2) ?_,rfl,q⟩
  rw [List.length_append]
  omega





/-! ### list + list,list += list,list * int -/
def rCat : R2:=fun x y H Q=>∃ l b xs zs,x = .ref l∧y = .ref b∧H l=some (.lst xs)∧H b=some (.lst zs)∧xs.length + zs.length≤sizeLine∧∀ p,H p=none->Q (.ref p) (upd H p (.lst (xs ++ zs)))
theorem op_cat : OpR X (binaryOp .Add) rCat:=by
  intro pins s σ H x y v u Q I rx ry h
  obtain ⟨l,b,xs,zs,rfl,rfl,hH,hB,hz,q⟩:=h
  cases rx
  cases ry
  obtain ⟨z,its,n,r,hl,e⟩:=I.lstM hH
  obtain ⟨z2,its2,n2,r2,hl2,e2⟩:=I.lstM hB
  refine PySem.P.add_list e e2 ?_ (by rw [List.size_toArray,List.size_toArray]; omega)
  have ea : its.toArray ++ its2.toArray=(its ++ its2).toArray:=by simp
  rw [ea]
  exact ⟨.ref _,_,I.lnew (t':=s.toks) (r.append r2) (by rw [List.length_append]; omega),rfl,q _ I.fresh⟩

/-! ### del xs[i] -/
end

/-! ### xs[a:b]=ys -/
section
variable {prog : Program} {w : World} {A : Around} {E : Value->Shared->Prop} {s : Shared}
end

section
variable {X : Cx}
end
end L2

namespace Att
open PySem PySem.W PySem.Calls PyProof.Rows

/-! ### the script -/
theorem z5e {P : Params} {h : Heap} : ∀ (ns : List Int) (vs : List Value),WellAll P h vs (ns.map WData.int)->IntsAre vs ns:=by
  intro ns
  induction ns with
  | nil=>
    intro vs w
    rw [List.map_nil] at w
    cases w
    exact .nil
  | cons n ns ih=>
    intro vs w
    rw [List.map_cons] at w
    cases w with
    | cons a b=>
      cases a
      exact .cons _ _ (ih _ b)

theorem y1u {l : OpenLaw} {n : Nat} (hn : l.most=some n) {P : Params} {h : Heap} {args : List WData} {vals : List Value}
    (hpre : l.row.toRowW.claim.pre args=true) (hwl : WellAll P h vals args) :
    ∃ a vs ns,vals=[Value.ref a]∧args=[WData.list (ns.map WData.int)]∧h.get? a=some { cls:=.type "list",data:=.seq vs.toArray }∧IntsAre vs ns∧ns.length≤n:=by
  have hsh : WShape.hasAll [] args [.list .int]=true:=(pre_splitW hpre).1
  have hc : l.pre.holds [] { args:=args } = true:=(pre_splitW hpre).2
  obtain ⟨d,r,rfl,h1,h2⟩:=hasAllW_cons hsh
  obtain rfl:=hasAllW_nil h2
  obtain ⟨xs,rfl,h3⟩:=hasW_list h1
  obtain ⟨ns,rfl⟩:=items_int h3
  have hlen : ns.length≤n:=by
    unfold OpenLaw.pre at hc
    have h4 : (WTm.not (.lt (.lit (.int (n : Int))) (.len (.arg 0)))).holds [] { args:=[.list (ns.map .int)] } = true:=by
      have h4:=(holds_andW hc).1
      rw [hn] at h4
      exact h4
    have h5:=condW_of h4 (w_not (w_lt w_lit (w_len_list (w_arg rfl))))
    rw [List.length_map] at h5
    refine Nat.le_of_not_lt fun q=>?_
    have q' : (n : Int) < ((ns.length : Nat) : Int):=by omega
    first
      | (rw [decide_eq_true q'] at h5; exact absurd h5 (by decide))
      | (simp at h5; omega)
  cases hwl with
  | cons w1 w2=>
    cases w2
    cases w1 with
    | list ho hall=>exact ⟨_,_,ns,rfl,rfl,ho,z5e ns _ hall,hlen⟩

theorem y1x (l : OpenLaw) (args : List WData) : l.row.toRowW.claim.post args (.bool true) args=true:=
  postW_of (r:=l.row.toRowW) (X:=(true == true))
    (show WShape.has [] (.bool true) .bool=true by first | rfl | decide | simp [WShape.has,WShape.arms,WShape.armsAll])
    (show (WTm.eq .res (.lit (.bool true))).value [] { args:=args,res:=some (.bool true),after:=args } = some (.bool (true == true)) from w_eq_bool (w_res rfl) w_lit) rfl

/-! ### the attachment: holds_open's last premise (the goal 'hc' behind k_head) from a wpAny of the law's body -/

/-- the same from a codeAny of the CALL (for a layer whose function contracts speak of calls) -/
theorem attach_call {l : OpenLaw} {n : Nat} {q : Program} {loose : List Str} {XP : (Str->Option Value)->Heap->Prop} {YP : World->Heap->Prop} {d : DefRec}
    (hn : l.most=some n) (hdf : d.params.defaults=[])
    (call : ∀ (w : World) (s₀ s₁ : Shared) (mg mb : Str->Option Value) (fa : Addr) (o : Obj) (pm cd doc : Value) (a : Addr) (vs : List Value) (ns : List Int),
      Ground q loose [] XP w s₀ mg mb s₁.heap->YP w s₁.heap →
      s₁.heap.get? fa=some o->o.data = .func (docDef d.name d.params d.body d.scope pm cd doc)->s₁.heap.CodeRec cd d.name->mg d.name=some (.ref fa) →
      s₁.heap.get? a=some { cls:=.type "list",data:=.seq vs.toArray }->IntsAre vs ns->ns.length≤n->s₁.gens = #[] →
      codeAny (model l.prog w) callerA (.call (.ref fa) ⟨[.ref a],[]⟩) (fun r s'=>r = .ok (.ret (.bool true))∧OldK s₁.heap s'.heap∧s'.os=s₁.os∧AllBare s'.gens) s₁) :
    WalkO q loose XP YP l.row.toRowW d [] (fun f vs=>PySem.call f vs):=by
  intro w s₀ s₁ mg mb G Y fa o pm cd doc dV kV ho hd hcd hD hmg hg args vals as hpre hlay hrd hwl hlo
  obtain rfl : dV = .none:=Dflts.none hD hdf
  obtain rfl : kV = .none:=Dflts.noKw hD
  obtain ⟨a,vs,ns,rfl,rfl,hobj,hints,hlen⟩:=y1u hn hpre hwl
  refine enter_call (codeAny_mono (call w s₀ s₁ mg mb fa o pm cd doc a vs ns G Y ho (fd_plain hd) hcd hmg hobj hints hlen hg) fun r s' hq=>?_)
  obtain ⟨rfl,h2,h3,h4⟩:=hq
  exact ⟨.inl ⟨.bool true,.bool true,[],rfl,fun _=>rfl,.bool true,y1x l _,fun _=>⟨List.Pairwise.nil,fun _ hm=>(nomatch hm)⟩⟩,h2,h3,h4⟩


/-! ### rules over ANY heap (no z8m) from facts about the written part K: the library's own take a z8m (News) for what they write -/
section
variable {prog : Program} {w : World} {A : Around} {E : Value->Shared->Prop} {s : Shared} {K : Frag}





/-! the whole heap as the z8m: makes every rule that writes through a z8m a rule over any heap -/
def z8m (h : Heap) (L d : Addr) : List (Addr × Obj):=(List.range h.objs.size).filterMap fun a=>if a=L∨a=d then none else (h.get? a).map fun o=>(a,o)

end
end Att

namespace L2
open PySem PySem.Spec PyProof.Rows

theorem z8p : ∀ {vs : List Value} {ns : List Int},IntsAre vs ns->Vals (ns.map V.int) vs
  | _,_,.nil=>.nil
  | _,_,.cons n t h=>.cons ⟨t,rfl⟩ (z8p h)

/-- nothing is tracked but the script,known to the object (or it is an object of the module) -/
def Only (H : Hp) : Prop:=∀ b,H b=none∨∃ o xs,H b=some (.frz o (.lst xs))

/-- THE HEAD: the law's promise,at the heap behind the top. F,the promise of the law's def,may use that base is part of the heap (so K.In base,base.Ns mainGlobals mg stand in Mod) -/
theorem y6x {P : Program} {w : World} {K : PySem.W.Frag} {mg mb : Str->Option Value} {CX : CXT} {k : Nat} {fa a : Addr} {fd : FuncData} {x : Str} {sp : Sp} {s₁ : Shared} {vs : List Value} {ns : List Int}
    (KX : K.In s₁.heap) (hns : s₁.heap.Ns mainGlobals mg) (hb : s₁.heap.Ns builtinsNs mb) (hbb : ∀ x : Str,x ≠ "__name__" → mb x=bootBuiltins x) (hlim : s₁.heap.NoLimit) (hg : s₁.gens = #[])
    (ha : s₁.heap.get? a=some { cls:=.type "list",data:=.seq vs.toArray }) (hi : IntsAre vs ns) (hl : ns.length≤sizeLine) (hr : Room k callerA)
    (F : ∀ base : Heap,K.In base->base.Ns mainGlobals mg->FnOk P w K mg base CX k fa fd [x] sp) (hbind : ∀ (s : Shared) (u : Value),BindsTo s fd ⟨[u],[]⟩ [(x,u)])
    (hsp : ∀ H : Hp,Only H->SqL K H a (ns.map V.int)->sp [.ref a] H (fun v _=>v = .bl true) fun _ _ _=>False)
    (hCX : ∀ H e s',CX [] H s₁ (fun _ _ _=>False) e s'->False) :
    codeAny (model P w) callerA (.call (.ref fa) ⟨[.ref a],[]⟩) (fun r s'=>r = .ok (.ret (.bool true))∧OldK s₁.heap s'.heap∧s'.os=s₁.os∧AllBare s'.gens) s₁:=by
  have rv:=z8p hi
  have lenV:=hi.length
  -- from an abstract heap in which nothing but the script may be tracked
  have core : ∀ H : Hp,Only H->SqL K H a (ns.map V.int)->HOk P w H s₁.heap->(∀ b,H b≠none->b=a)->(H a≠none->K.lookup a=none) →
      codeAny (model P w) callerA (.call (.ref fa) ⟨[.ref a],[]⟩) (fun r s'=>r = .ok (.ret (.bool true))∧OldK s₁.heap s'.heap∧s'.os=s₁.os∧AllBare s'.gens) s₁:=by
    intro H hO hS hok hA hK
    have base_of : ∀ {b : Addr} {o : Obj},s₁.heap.get? b=some o->H b=none->(y6e s₁.heap H).get? b=some o:=fun e n=>y6X e n
    have noA : ∀ {b : Addr} {o : Obj} {es : Array DictEntry} {ep : Nat},s₁.heap.get? b=some o->o.data = .dict es ep->H b=none:=fun {b o es ep} e d=>by
      cases q : H b with
      | none=>rfl
      | some u=>
        have e' : b=a:=hA b (by rw [q]; simp)
        subst e'
        rw [ha] at e; cases e
        have d' : Data.seq vs.toArray _=Data.dict es ep:=d
        cases d'
    have nsK : ∀ {b : Addr} {m : Str->Option Value},s₁.heap.Ns b m->(y6e s₁.heap H).Ns b m:=fun {b m} ⟨o,es,ep,e,d,r⟩=>⟨o,es,ep,base_of e (noA e d),d,r⟩
    have hKb : K.In (y6e s₁.heap H):=fun b o e=>base_of (KX b o e) (by
      cases q : H b with
      | none=>rfl
      | some u=>
        have e' : b=a:=hA b (by rw [q]; simp)
        subst e'
        rw [hK (by rw [q]; simp)] at e; cases e)
    have hM : Mod K mg (y6e s₁.heap H):=⟨hKb,nsK hns,⟨mb,nsK hb,hbb⟩,let ⟨mc,h1,h2⟩:=hlim; ⟨mc,nsK h1,h2⟩⟩
    have e0 : Env0 P w K mg (y6e s₁.heap H) callerA [] s₁ H:=⟨rfl,hM,fun b o e=>of_hidT e,Nat.le_of_eq (y1L _ _),trivial,fun b hb=>absurd (show b∈([] : List Addr) from hb) (by simp),hok,.of_eq hg⟩
    refine codeAny_mono ((F _ hKb (nsK hns)).run callerA [] s₁ H ⟨[.ref a],[]⟩ [.ref a] [.ref a] _ _ hr e0 (hbind s₁ (.ref a)) (.cons rfl .nil) (hsp H hO hS)) fun r s' h=>?_
    cases r with
    | error e=>exact (hCX H e s' h).elim
    | ok fl=>
      cases fl with
      | next=>exact False.elim h
      | brk=>exact False.elim h
      | cont=>exact False.elim h
      | ret u=>
        obtain ⟨v,H',os,bare,un,hok',r',q⟩:=h
        have q' : v = .bl true:=q
        subst q'
        obtain rfl : u=Value.bool true:=r'
        refine ⟨rfl,OldK.of_keep fun b o e=>?_,os,bare⟩
        cases q : H b with
        | none=>exact un.keep b o e q (by intro z; exact absurd (show b∈([] : List Addr) from z) (by simp)) (by simp)
        | some u=>
          rcases hO b with z | ⟨ob,xs,z⟩
          · rw [q] at z; cases z
          · have z2:=un.frzs b ob _ z
            obtain ⟨e1,_⟩:=hok b _ z
            obtain ⟨e2,_⟩:=hok' b _ z2
            rw [e] at e1; cases e1
            exact e2
  cases hk : K.lookup a with
  | some o=>
    -- the script is one of the module's own objects
    have e:=KX a o hk
    rw [ha] at e
    cases e
    refine core (fun _=>none) (fun _=>.inl rfl) (.inr ⟨_,vs.toArray,_,hk,rfl,rfl,rfl,by rw [List.size_toArray,lenV]; exact hl,by simpa using rv⟩) (fun b u z=>by have z' : (none : Option HO)=some u:=z; cases z') (fun b z=>absurd rfl z) fun z=>absurd rfl z
  | none=>
    refine core (fun b=>if b=a then some (.frz { cls:=.type "list",data:=.seq vs.toArray } (.lst (ns.map V.int))) else none) (fun b=>?_) (.inl (.inr ⟨{ cls:=.type "list",data:=.seq vs.toArray },if_pos rfl⟩)) (fun b u z=>?_) (fun b z=>?_) fun _=>hk
    · by_cases hb : b=a
      · exact .inr ⟨_,_,if_pos hb⟩
      · exact .inl (if_neg hb)
    · by_cases hb : b=a
      · have z':=(if_pos hb).symm.trans z
        cases z'
        subst hb
        exact ⟨ha,by rw [List.length_map]; exact hl,vs,_,rv,ha⟩
      · have z':=(if_neg hb).symm.trans z
        cases z'
    · by_cases hb : b=a
      · exact hb
      · exact absurd (if_neg hb) z
end L2

namespace L2
open PySem PySem.Spec PyProof.Rows

abbrev KOf {K : PySem.W.Frag} {h : Heap} (_ : K.In h) : PySem.W.Frag:=K

/-- the goal that k_head leaves (case hc),from the law's promise. F gives the function object fd (K's own) once,then the promise over every base -/
theorem walk_of {l : PySem.W.OpenLaw} {n k : Nat} {q : Program} {loose : List Str} {XP : (Str->Option Value)->Heap->Prop} {YP : World->Heap->Prop} {d : DefRec} {K : Params->PySem.W.Frag} {CX : World->CXT} {sp : World->Sp} {x : Str}
    (hn : l.most=some n) (hn2 : n≤sizeLine) (hdf : d.params.defaults=[]) (hr : Room k callerA)
    (hY : ∀ (w : World) (h : Heap),YP w h->(K w.params).In h)
    (F : ∀ (w : World) (mg : Str->Option Value) (fa : Addr) (h : Heap),(K w.params).In h->h.Ns mainGlobals mg->mg d.name=some (.ref fa) →
      ∃ fd : FuncData,(∀ (s : Shared) (u : Value),BindsTo s fd ⟨[u],[]⟩ [(x,u)]) ∧
        ∀ base : Heap,(K w.params).In base->base.Ns mainGlobals mg->FnOk l.prog w (K w.params) mg base (CX w) k fa fd [x] (sp w))
    (hsp : ∀ (w : World) (H : Hp) (a : Addr) (ns : List Int),ns.length≤n->Only H->SqL (K w.params) H a (ns.map V.int)->sp w [.ref a] H (fun v _=>v = .bl true) fun _ _ _=>False)
    (hCX : ∀ (w : World) (H : Hp) (s : Shared) (e : Value) (s' : Shared),CX w [] H s (fun _ _ _=>False) e s'->False) :
    PySem.W.WalkO q loose XP YP l.row.toRowW d [] (fun f vs=>PySem.call f vs):=by
  refine Att.attach_call hn hdf fun w s₀ s₁ mg mb fa o pm cd doc a vs ns G Y ho hd hcd hmg hobj hints hlen hg=>?_
  have KX:=hY w _ Y
  obtain ⟨fd,hb,hF⟩:=F w mg fa _ KX G.T.g hmg
  exact y6x KX G.T.g G.T.b G.T.builtins G.T.nolimit hg hobj hints (Nat.le_trans hlen hn2) hr hF hb (fun H hO hS=>hsp w H a ns hlen hO hS) fun H e s'=>hCX w H s₁ e s'
end L2

/- THE LAST THEOREM (shape; LID,My.* are yours):
   My.Adr: a structure of the addresses that your layer names (classes,functions); My.Txt K t: a structure (Prop) of the equations over K;
   My.txt_mk : {K} {implicit addresses ..} (e1 : nsIn K mainGlobals "law" = some (some (.ref f))) (e2 : K.lookup f=some ⟨oc,od,.func (fnOf "law" "law" params body scope dV kV doc pm an cdv ct),sl⟩) (e3 : codeIn K cdv "law" = true) .. : ∃ t,My.Txt K t

set_option maxRecDepth 100000 in
set_option maxHeartbeats 0 in
theorem PySem.Challenge.cw_LID_holds : PySem.Challenge.rw_LID.Holds := by
  w_on; o_law; k_head; (case hw=>w_witness2)
  k_fill
  refine L2.walk_of (l:=PySem.Challenge.rw_LID) (n:=63) (k:=40) (x := "script") (CX:=fun w=>..) (sp:=fun _=>My.sp_law) rfl (by decide) rfl ⟨rfl,by decide,by decide⟩ (fun w h Y=>PySem.W.kIn_of Y) ?F ?S ?C
  case F=>
    intro w mg fa h KX G hmg
    have T : ∃ t,My.Txt (L2.KOf KX) t:=by
      dsimp only [L2.KOf]                          -- K must stand as «<heap const> w.params» for k_is
      refine' My.txt_mk ?e1 ?e2 ?e3 ..
      (case e1=>PySem.W.k_is)                    -- in the order: a name -> its address -> its object -> its parts
      (case e2=>PySem.W.k_is)
      ..
    obtain ⟨t,T⟩:=T
    have e0:=hmg.symm.trans (PySem.W.mg_of KX G T.law)
    cases e0                                       -- fa is the law's own address
    exact ⟨_,fun s u=>.of_eq rfl,fun base kb nb=>My.law_fn T kb nb⟩     -- if «.of_eq rfl» comes too early: refine' ⟨_,?b,fun base kb nb=>My.law_fn T kb nb⟩; exact fun s u=>.of_eq rfl
  case S=>exact fun w H a ns hl hO hS=>..
  case C=>exact ..
(the tactic k_is has no namespace: write k_is) -/

/-! SHORT WORDS over the layer: a def of the text,its body,what a loop and a test want. -/
namespace L2
open PySem PySem.Spec PyProof.Rows

/-! ### the text by places -/
def z0t (s : Stmt) : Arguments:=match s with
  | .FunctionDef _ a _ _ _ _ _ _ _ _=>a
  | _=>{ posonlyargs:=[],args:=[],vararg:=none,kwonlyargs:=[],kw_defaults:=[],kwarg:=none,defaults:=[] }
def z0n (s : Stmt) : List Stmt:=match s with
  | .FunctionDef _ _ b _ _ _ _ _ _ _=>b
  | _=>[]
def z0b (s : Stmt) : Scope:=match s with
  | .FunctionDef _ _ _ _ _ _ sc _ _ _=>sc
  | _=>{ kind:=.function,names:=[],isGenerator:=false,isCoroutine:=false }

/-! ### no exception leaves a def -/
abbrev CX0 : CXT:=fun _ _ _ _ _ _=>False
abbrev E0 : XK:=fun _ _ _=>False
theorem pass0 {X : Cx} : y2K CX0 X E0:=fun _ _ _ _ _ _ _ h=>h.elim

/-! ### a def (or method) of the text as it stands behind the top -/
structure Fun (K : PySem.W.Frag) (x qual : Str) (st : Stmt) (f : Addr) (fd : FuncData) : Prop where
  ex : ∃ (oc : Value) (od : Option Addr) (kV doc pm : Value) (an : Option Addr) (cdv ct : Value) (osl : Array (Option Value)),
    fd=PySem.W.fnOf x qual (z0t st) (z0n st) (z0b st) .none kV doc pm an cdv ct∧K.lookup f=some ⟨oc,od,.func fd,osl⟩∧PySem.W.codeIn K cdv qual=true
  kp : PySem.W.keepIn K (.ref f)=true
section
variable {P : Program} {w : World} {K : PySem.W.Frag} {mg : Str->Option Value} {base : Heap}
/-- THE RULE for a def: its body as a term of rules,and the reading of that term -/
theorem Fun.ok {x qual : Str} {st : Stmt} {f : Addr} {fd : FuncData} {N ps : List Str} {k : Nat} {sp : Sp} (F : Fun K x qual st f fd) (S : FnScope N ps (z0b st)) (len : ∀ vs H Q E,sp vs H Q E->vs.length=ps.length)
    (hbody : ∀ (cdv : Value) (A : Around) (outer : List Env) (s : Shared) (H : Hp) (vs : List V) (Q : VK) (E : XK),Room k (A.deeper (envOfC qual (z0b st) s.heap.objs.size f cdv))->sp vs H Q E →
      ∃ t,PSs (z8q CX0 P w K mg base N qual (z0b st) f cdv A outer s H E).nox (z0n st) t∧t { nx:=fun _ H'=>Q .non H',rt:=Q } (z4K N vs) H) : FnOk P w K mg base CX0 (k + 1) f fd ps sp:=by
  obtain ⟨oc,od,kV,doc,pm,an,cdv,ct,osl,rfl,lk,hcd⟩:=F.ex
  refine fn_of lk hcd S len fun A outer s H vs Q E hr hsp=>?_
  obtain ⟨t,h,q⟩:=hbody cdv A outer s H vs Q E hr hsp
  exact ⟨t,h.nox,q⟩
/-- how its arguments bind (no defaults): h is «fun _ _ _ _ _ _ us hl=>match us,hl with | [_,_],_=>rfl»,one _ a parameter -/
theorem Fun.binds {x qual : Str} {st : Stmt} {f : Addr} {fd : FuncData} {ps : List Str} (F : Fun K x qual st f fd)
    (h : ∀ (kV doc pm : Value) (an : Option Addr) (cdv ct : Value) (us : List Value),us.length=ps.length->bindArgs (PySem.W.fnOf x qual (z0t st) (z0n st) (z0b st) .none kV doc pm an cdv ct) ⟨us,[]⟩=pure (ps.zip us)) : Binds K fd ps []:=by
  obtain ⟨oc,od,kV,doc,pm,an,cdv,ct,osl,rfl,lk,hcd⟩:=F.ex
  exact .all (h kV doc pm an cdv ct)
theorem z0J {x qual : Str} {st : Stmt} {f : Addr} {oc : Value} {od an : Option Addr} {osl : Array (Option Value)} {kV doc pm cdv ct : Value} (l : K.lookup f=some ⟨oc,od,.func (PySem.W.fnOf x qual (z0t st) (z0n st) (z0b st) .none kV doc pm an cdv ct),osl⟩)
    (c : PySem.W.codeIn K cdv qual=true) (k : PySem.W.keepIn K (.ref f)=true) : Fun K x qual st f (PySem.W.fnOf x qual (z0t st) (z0n st) (z0b st) .none kV doc pm an cdv ct):=⟨⟨oc,od,kV,doc,pm,an,cdv,ct,osl,rfl,l,c⟩,k⟩
end
theorem z5q {n : Nat} (h : n≤1000) : n < sizeLine:=Nat.lt_of_le_of_lt h (by decide)

/-! ### expressions in short: the name that stands in the i-th slot -/
section
variable {X : Cx}
theorem pv (i : Nat) {x : Str} {pos : Pos} (hN : X.N[i]? = some x:=by rfl) (hv : Vis X.env.scope x:=by first | exact Or.inl rfl | exact Or.inr (Or.inl rfl) | exact Or.inr (Or.inr rfl)) (hd : (x == ("__debug__" : Str))=false:=by decide)
    (hcd : (x == ("__classdict__" : Str))=false:=by decide) : PE X (.Name x pos) (z9Y i):=pe_var hN hv hd hcd
end

/-! ### tests -/
theorem iteF {A B : Prop} (h : B) : if false=true then A else B:=by
  rw [if_neg Bool.false_ne_true]
  exact h
theorem iteT {A B : Prop} (h : A) : if true=true then A else B:=by
  rw [if_pos rfl]
  exact h

/-! ### heaps -/
/-- all that was tracked is as it was -/
def Same (H H' : Hp) : Prop:=∀ b o,H b=some o->H' b=some o
theorem Same.refl (H : Hp) : Same H H:=fun _ _ h=>h
theorem Same.trans {H H1 H2 : Hp} (a : Same H H1) (b : Same H1 H2) : Same H H2:=fun c o h=>b c o (a c o h)
theorem Same.free {H H' : Hp} (e : Same H H') {l : Addr} (h : H' l=Option.none) : H l=Option.none:=by
  cases q : H l with
  | none=>rfl
  | some o=>
    rw [e l o q] at h
    cases h
theorem Same.seq {K : PySem.W.Frag} {H H' : Hp} {a : Addr} {xs : List V} (e : Same H H') (h : SqL K H a xs) : SqL K H' a xs:=by
  rcases h with (h | ⟨o,h⟩) | h
  · exact .inl (.inl (e _ _ h))
  · exact .inl (.inr ⟨o,e _ _ h⟩)
  · exact .inr h

end L2

namespace L2
open PySem PySem.Spec PyProof.Rows

/-! ### lists of pairs as tables -/
section
variable {κ : Type} [DecidableEq κ]
def z9B (kvs : List (κ × V)) (k : κ) : Option V:=(kvs.find? fun kv=>decide (kv.1=k)).map (·.2)
/-- in its place,or at the end -/
def z7m (kvs : List (κ × V)) (k : κ) (v : V) : List (κ × V):=
  if (kvs.any fun kv=>decide (kv.1=k))=true then kvs.map (fun kv=>if kv.1=k then (kv.1,v) else kv) else kvs ++ [(k,v)]
def dropK (kvs : List (κ × V)) (k : κ) : List (κ × V):=kvs.filter fun kv=>decide (kv.1≠k)

theorem z7g {p : κ × V} {r : List (κ × V)} {k : κ} (e : p.1=k) : z9B (p :: r) k=some p.2:=by simp [z9B,List.find?_cons,e]
theorem z6z {p : κ × V} {r : List (κ × V)} {k : κ} (e : ¬ p.1=k) : z9B (p :: r) k=z9B r k:=by simp [z9B,List.find?_cons,e]
theorem z6u (k : κ) : ∀ kvs : List (κ × V),(kvs.any fun kv=>decide (kv.1=k))=(z9B kvs k).isSome
  | []=>rfl
  | p :: r=>by
    rw [List.any_cons]
    by_cases e : p.1=k
    · simp only [z7g e,decide_eq_true e,Bool.true_or,Option.isSome_some]
    · rw [z6z e,decide_eq_false e,Bool.false_or]; exact z6u k r
theorem z5D (kvs : List (κ × V)) (k : κ) (v : V) : (z7m kvs k v).length≤kvs.length + 1:=by
  unfold z7m
  split
  · rw [List.length_map]; omega
  · rw [List.length_append,List.length_cons,List.length_nil]; omega

theorem RelO.isSome_eq {o : Option V} {u : Option Value} (r : RelO o u) : o.isSome=u.isSome:=by
  cases o with
  | none=>cases u with
    | none=>rfl
    | some _=>exact (show False from r).elim
  | some _=>cases u with
    | none=>exact (show False from r).elim
    | some _=>rfl
theorem RelO.getD {o : Option V} {u : Option Value} {d : V} {d' : Value} (r : RelO o u) (rd : RelV d d') : RelV (o.getD d) (u.getD d'):=by
  cases o with
  | none=>cases u with
    | none=>exact rd
    | some _=>exact (show False from r).elim
  | some _=>cases u with
    | none=>exact (show False from r).elim
    | some _=>exact r

/-- raw tables of the same keys -/
theorem KV.val {kvs : List (κ × V)} {vs : List (κ × Value)} (r : KV kvs vs) (k : κ) : RelO (z9B kvs k) (valueAt vs k):=by
  unfold KV at r
  induction r with
  | nil=>exact True.intro
  | @cons p q ps qs h t ih=>
    obtain ⟨h1,h2⟩:=h
    by_cases e : p.1=k
    · have e' : q.1=k:=h1.symm.trans e
      have b : valueAt (q :: qs) k=some q.2:=by simp [valueAt,List.find?_cons,e']
      rw [z7g e,b]; exact h2
    · have e' : ¬ q.1=k:=fun z=>e (h1.trans z)
      have b : valueAt (q :: qs) k=valueAt qs k:=by simp [valueAt,List.find?_cons,e']
      rw [z6z e,b]; exact ih
theorem KV.any {kvs : List (κ × V)} {vs : List (κ × Value)} (r : KV kvs vs) (k : κ) : (kvs.any fun kv=>decide (kv.1=k))=vs.any fun kv=>decide (kv.1=k):=by
  unfold KV at r
  induction r with
  | nil=>rfl
  | cons h t ih=>rw [List.any_cons,List.any_cons,ih,h.1]
theorem KV.repl {kvs : List (κ × V)} {vs : List (κ × Value)} (r : KV kvs vs) (k : κ) {y : V} {u : Value} (ry : RelV y u) :
    KV (kvs.map fun kv=>if kv.1=k then (kv.1,y) else kv) (vs.map fun kv=>if kv.1=k then (kv.1,u) else kv):=by
  unfold KV at r ⊢
  induction r with
  | nil=>exact .nil
  | @cons p q ps qs h t ih=>
    rw [List.map_cons,List.map_cons]
    refine .cons ?_ ih
    obtain ⟨h1,h2⟩:=h
    by_cases e : p.1=k
    · rw [if_pos e,if_pos (h1.symm.trans e)]; exact ⟨h1,ry⟩
    · rw [if_neg e,if_neg (fun z=>e (h1.trans z))]; exact ⟨h1,h2⟩
theorem KV.put {kvs : List (κ × V)} {vs : List (κ × Value)} (r : KV kvs vs) (k : κ) {y : V} {u : Value} (ry : RelV y u) : KV (z7m kvs k y) (stored vs k u):=by
  unfold z7m stored
  rw [r.any k]
  by_cases e : (vs.any fun kv=>decide (kv.1=k))=true
  · rw [if_pos e,if_pos e]; exact r.repl k ry
  · rw [if_neg e,if_neg e]; exact Paired.snoc r ⟨rfl,ry⟩
theorem KV.drop {kvs : List (κ × V)} {vs : List (κ × Value)} (r : KV kvs vs) (k : κ) : KV (dropK kvs k) (without vs k):=by
  unfold KV at r ⊢
  unfold dropK without
  induction r with
  | nil=>exact .nil
  | @cons p q ps qs h t ih=>
    obtain ⟨h1,h2⟩:=h
    rw [List.filter_cons,List.filter_cons]
    by_cases e : p.1=k
    · have a : ¬ decide (p.1≠k)=true:=by simp [e]
      have b : ¬ decide (q.1≠k)=true:=by simp [h1.symm.trans e]
      rw [if_neg a,if_neg b]; exact ih
    · have e' : ¬ q.1=k:=fun z=>e (h1.trans z)
      have a : decide (p.1≠k)=true:=by simp [e]
      have b : decide (q.1≠k)=true:=by simp [e']
      rw [if_pos a,if_pos b]; exact .cons ⟨h1,h2⟩ ih
theorem KV.keys {kvs : List (κ × V)} {vs : List (κ × Value)} (r : KV kvs vs) : kvs.map (·.1)=vs.map (·.1):=by
  unfold KV at r
  induction r with
  | nil=>rfl
  | cons h t ih=>rw [List.map_cons,List.map_cons,ih,h.1]
theorem KV.length {kvs : List (κ × V)} {vs : List (κ × Value)} (r : KV kvs vs) : kvs.length=vs.length:=Paired.length r
end


/-! ### a tracked dict,its keys ints and texts or tuples of these -/
theorem kV_is {P : Program} {w : World} {k : Key} {u : Value} (r : RelV (kV k) u) : (z1u P w).is k u=true:=by
  cases k with
  | inl i=>obtain ⟨t,e⟩:=(show ∃ t,u=Value.int i t from r); subst e; exact z9f P w i t
  | inr x=>obtain ⟨t,e⟩:=(show ∃ t,u=Value.str x t from r); subst e; exact z8P P w x t
theorem z7R {P : Program} {w : World} : ∀ {ks : List Key} {us : List Value},Vals (ks.map kV) us->ItemsAre (z1u P w) ks us
  | [],_,r=>by rw [List.map_nil] at r; cases r; exact .nil
  | k :: ks,_,r=>by
    rw [List.map_cons] at r
    cases r with
    | cons h t=>exact .cons (kV_is h) (z7R t)

/-- raw entries of a dict with tuple keys -/
abbrev KT (H : Hp) : List (List Key × V)->List (List Key × Addr × Value)->Prop:=Paired fun p q=>p.1=q.1∧H q.2.1=some (.tup (p.1.map kV))∧RelV p.2 q.2.2
theorem KT.val {H : Hp} {kvs : List (List Key × V)} {xs : List (List Key × Addr × Value)} (r : KT H kvs xs) (k : List Key) : RelO (z9B kvs k) ((atKey xs k).map (·.2)):=by
  induction r with
  | nil=>exact True.intro
  | @cons p q ps qs h t ih=>
    obtain ⟨h1,_,h2⟩:=h
    by_cases e : p.1=k
    · have e' : q.1=k:=h1.symm.trans e
      have b : atKey (q :: qs) k=some q.2:=by simp [atKey,List.find?_cons,e']
      rw [z7g e,b]; exact h2
    · have e' : ¬ q.1=k:=fun z=>e (h1.trans z)
      have b : atKey (q :: qs) k=atKey qs k:=by simp [atKey,List.find?_cons,e']
      rw [z6z e,b]; exact ih
theorem KT.repl {H : Hp} {kvs : List (List Key × V)} {xs : List (List Key × Addr × Value)} (r : KT H kvs xs) (k : List Key) {y : V} {u : Value} (ry : RelV y u) :
    KT H (kvs.map fun kv=>if kv.1=k then (kv.1,y) else kv) (xs.map (putAt k u)):=by
  induction r with
  | nil=>exact .nil
  | @cons p q ps qs h t ih=>
    rw [List.map_cons,List.map_cons]
    refine .cons ?_ ih
    obtain ⟨h1,h2,h3⟩:=h
    unfold putAt
    by_cases e : p.1=k
    · rw [if_pos e,if_pos (h1.symm.trans e)]; exact ⟨h1,h2,ry⟩
    · rw [if_neg e,if_neg (fun z=>e (h1.trans z))]; exact ⟨h1,h2,h3⟩
theorem KT.put {H : Hp} {kvs : List (List Key × V)} {xs : List (List Key × Addr × Value)} (r : KT H kvs xs) (k : List Key) {b : Addr} {y : V} {u : Value} (hb : H b=some (.tup (k.map kV))) (ry : RelV y u) :
    KT H (z7m kvs k y) (storedH xs k b u):=by
  have e : (kvs.any fun kv=>decide (kv.1=k))=(atKey xs k).isSome:=by
    rw [z6u,(r.val k).isSome_eq,Option.isSome_map]
  unfold z7m storedH
  rw [e]
  by_cases q : (atKey xs k).isSome=true
  · rw [if_pos q,if_pos q]; exact r.repl k ry
  · rw [if_neg q,if_neg q]; exact Paired.snoc r ⟨rfl,hb,ry⟩
theorem KT.keeps {H H' : Hp} {kvs : List (List Key × V)} {xs : List (List Key × Addr × Value)} (r : KT H kvs xs) (ht : ∀ b ys,H b=some (.tup ys)->H' b=some (.tup ys)) : KT H' kvs xs:=
  Paired.mapP r fun _ _ z=>⟨z.1,ht _ _ z.2.1,z.2.2⟩

section
variable {P : Program} {w : World} {H : Hp} {h : Heap} {a : Addr}
theorem rd_of {u : HO} (ok : HOk P w H h) (e : Rd H a u) : ObjOk P w H h a u:=e.ok ok
theorem dk_rd {kvs : List (Key × V)} (ok : HOk P w H h) (e : Rd H a (.dK kvs)) : kvs.length≤sizeLine∧(a == sysModules)=false∧∃ vs,KV kvs vs∧h.DictOf (z1u P w) a vs:=
  show ObjOk P w H h a (.dK kvs) from rd_of ok e
theorem dk_of {kvs : List (Key × V)} (ok : HOk P w H h) (e : H a=some (.dK kvs)) : kvs.length≤sizeLine∧(a == sysModules)=false∧∃ vs,KV kvs vs∧h.DictOf (z1u P w) a vs:=dk_rd ok (.inl e)
/-- a tracked tuple of ints and texts is a key -/
theorem y4U {ks : List Key} (ok : HOk P w H h) (e : H a=some (.tup (ks.map kV))) : (tupleKind (z1u P w)).is h ks a:=by
  obtain ⟨_,its,r,o,h1,h2,n,h3⟩:=(show ObjOk P w H h a (.tup (ks.map kV)) from ok a _ e)
  exact ⟨o,its.toArray,n,h1,h2.1,h3,by simpa using z7R r⟩
theorem dt_rd {kvs : List (List Key × V)} (ok : HOk P w H h) (e : Rd H a (.dT kvs)) : kvs.length≤sizeLine∧(a == sysModules)=false ∧
    ∃ xs,KT H kvs xs∧h.DictOfH (tupleKind (z1u P w)) a xs:=by
  obtain ⟨z,y,xs,r,o,es,ep,h1,h2,h3,h4,h5⟩:=(show ObjOk P w H h a (.dT kvs) from rd_of ok e)
  refine ⟨z,y,xs,r,o,es,ep,h1,h2,h3,h4,fun x hx=>?_,h5⟩
  have all : ∀ {l : List (List Key × V)} {m : List (List Key × Addr × Value)},KT H l m->∀ x∈m,(tupleKind (z1u P w)).is h x.1 x.2.1:=by
    intro l m q
    induction q with
    | nil=>intro x hx; exact nomatch hx
    | @cons p q ps qs hq t ih=>
      intro x hx
      rcases List.mem_cons.mp hx with e | hx
      · subst e
        exact y4U ok (by rw [← hq.1]; exact hq.2.1)
      · exact ih x hx
  exact all r x hx
theorem dt_of {kvs : List (List Key × V)} (ok : HOk P w H h) (e : H a=some (.dT kvs)) : kvs.length≤sizeLine∧(a == sysModules)=false ∧
    ∃ xs,KT H kvs xs∧h.DictOfH (tupleKind (z1u P w)) a xs:=dt_rd ok (.inl e)
end

/-- what the dict at a holds at the key y -/
def DGet (H : Hp) (a : Addr) (y : V) (r : Option V) : Prop:=
  (∃ kvs k,Rd H a (.dK kvs)∧y=kV k∧r=z9B kvs k)∨∃ kvs k b,Rd H a (.dT kvs)∧y = .ref b∧H b=some (.tup (k.map kV))∧r=z9B kvs k
/-- the heap behind a[y]=v -/
def DPut (H : Hp) (a : Addr) (y v : V) (H' : Hp) : Prop:=
  (∃ kvs k,H a=some (.dK kvs)∧y=kV k∧kvs.length < sizeLine∧H'=upd H a (.dK (z7m kvs k v))) ∨
  ∃ kvs k b,H a=some (.dT kvs)∧y = .ref b∧H b=some (.tup (k.map kV))∧kvs.length < sizeLine∧H'=upd H a (.dT (z7m kvs k v))
theorem DGet.k {H : Hp} {a : Addr} {kvs : List (Key × V)} {k : Key} (e : H a=some (.dK kvs)) : DGet H a (kV k) (z9B kvs k):=.inl ⟨kvs,k,.inl e,rfl,rfl⟩
theorem DGet.t {H : Hp} {a b : Addr} {kvs : List (List Key × V)} {k : List Key} (e : H a=some (.dT kvs)) (eb : H b=some (.tup (k.map kV))) : DGet H a (.ref b) (z9B kvs k):=.inr ⟨kvs,k,b,.inl e,rfl,eb,rfl⟩
theorem DPut.k {H : Hp} {a : Addr} {kvs : List (Key × V)} {k : Key} {v : V} (e : H a=some (.dK kvs)) (hl : kvs.length < sizeLine) : DPut H a (kV k) v (upd H a (.dK (z7m kvs k v))):=.inl ⟨kvs,k,e,rfl,hl,rfl⟩
theorem DPut.t {H : Hp} {a b : Addr} {kvs : List (List Key × V)} {k : List Key} {v : V} (e : H a=some (.dT kvs)) (eb : H b=some (.tup (k.map kV))) (hl : kvs.length < sizeLine) :
    DPut H a (.ref b) v (upd H a (.dT (z7m kvs k v))):=.inr ⟨kvs,k,b,e,rfl,eb,hl,rfl⟩


section
variable {X : Cx} {pins : List (Addr × Obj)} {σ : St} {H : Hp} {s : Shared} {a : Addr} {y v : V} {u r : Value} {o : Option V} {A : Around} {E : Value->Shared->Prop}

theorem Inv.big (I : Inv X pins σ H s) : sysModules < s.heap.objs.size:=by
  have h : mainGlobals < s.heap.objs.size:=(I.mod.glob.keeps I.bk).lt
  exact Nat.lt_trans (by decide) h

/-- y in d -/
theorem d_in {Q : Value->Shared->Prop} (hu : A.units + 1 < cLine) (I : Inv X pins σ H s) (g : DGet H a y o) (ry : RelV y u) (h : ∀ s',Inv X pins σ H s'->Q (.bool o.isSome) s') :
    wpAny (model X.prog X.w) A (compareOp .In u (.ref a)) Q E s:=by
  rcases g with ⟨kvs,k,e,ey,l⟩ | ⟨kvs,k,b,e,ey,eb,l⟩
  · subst ey
    obtain ⟨z,hd,vs,rel,dd⟩:=dk_rd I.hok e
    refine wpAny_in_of (kV_is ry) hd dd.mapOf ?_
    rw [← (rel.val k).isSome_eq,← l]
    exact h _ (I.tok _)
  · subst ey
    cases (show u=Value.ref b from ry)
    obtain ⟨z,hd,xs,rel,dd⟩:=dt_rd I.hok e
    refine wpAny_in_heap (tupleKind_room_in1 hu) (y4U I.hok eb) hd dd ?_
    have q:=(rel.val k).isSome_eq
    rw [Option.isSome_map] at q
    rw [← q,← l]
    exact h _ (I.tok _)
/-- a dict's object is replaced -/
theorem y2o {h' : Heap} {t' : Nat} {ob : HO} (I : Inv X pins σ H s) (mu : Mut (H a)) (hs : Heap.SameBut a s.heap h') (he : ∃ q,h'.get? a=some q) (new : ObjOk X.prog X.w (upd H a ob) h' a ob) :
    Inv X pins σ (upd H a ob) { s with heap:=h',toks:=t' }:=
  I.write (x:=a) (e:=a) mu (.inl rfl) (fun b q hb z=>(hs.2 b hb).trans z) he new
theorem dk_new {P : Program} {w : World} {H' : Hp} {h' : Heap} {kvs : List (Key × V)} {vs : List (Key × Value)} (z : kvs.length≤sizeLine) (hd : (a == sysModules)=false) (rel : KV kvs vs) (dd : h'.DictOf (z1u P w) a vs) :
    ObjOk P w H' h' a (.dK kvs):=⟨z,hd,vs,rel,dd⟩
/-- d[y]=v -/
theorem y2m {H' : Hp} {Q : Unit->Shared->Prop} (hu : A.units + 1 < cLine) (I : Inv X pins σ H s) (g : DPut H a y v H') (ry : RelV y u) (rv : RelV v r) (h : ∀ s',Inv X pins σ H' s'->Q () s') :
    wpAny (model X.prog X.w) A (setItem (.ref a) u r) Q E s:=by
  rcases g with ⟨kvs,k,e,ey,l,eH⟩ | ⟨kvs,k,b,e,ey,eb,l,eH⟩
  · subst ey eH
    obtain ⟨z,hd,vs,rel,dd⟩:=dk_of I.hok e
    have hz : vs.length≤sizeLine:=by rw [← rel.length]; exact z
    have hl : (z7m kvs k v).length≤sizeLine:=by have:=z5D kvs k v; omega
    refine wpAny_setItem_pairs (hsz:=hz) (kV_is ry) dd fun h' dd' hs=>h _ ?_
    have he : ∃ q,h'.get? a=some q:=let ⟨q,_,_,hq,_⟩:=dd'; ⟨q,hq⟩
    exact y2o I (by rw [e]; exact True.intro) hs he (dk_new hl hd (rel.put k rv) dd')
  · subst ey eH
    cases (show u=Value.ref b from ry)
    obtain ⟨z,hd,xs,rel,dd⟩:=dt_of I.hok e
    have hz : xs.length≤sizeLine:=by rw [← Paired.length rel]; exact z
    have hl : (z7m kvs k v).length≤sizeLine:=by have:=z5D kvs k v; omega
    refine wpAny_setItem_heap (hsz:=hz) (tupleKind_room_in1 hu) (y4U I.hok eb) dd fun h' dd' hs=>h _ ?_
    obtain ⟨q,es,ep,hq,h2,h3,h4,_,h5⟩:=dd'
    refine y2o I (by rw [e]; exact True.intro) hs ⟨q,hq⟩ ⟨hl,hd,_,(rel.put k eb rv).keeps fun c ys ec=>?_,q,es,ep,hq,h2,h3,h4,h5⟩
    rw [z0s (ne_of ec e (fun z=>nomatch z))]
    exact ec
end

section
variable {X : Cx} {pins : List (Addr × Obj)} {σ : St} {H : Hp} {s : Shared} {a : Addr} {kvs : List (Key × V)} {k : Key} {u : Value} {A : Around} {E : Value->Shared->Prop}
end


/-! ### readings and rules -/


/-- y in d,y not in d -/
def tDIn (ty td : TE) : TE:=fun σ H Q=>ty σ H fun y H1=>td σ H1 fun x H2=>∃ a o,x = .ref a∧DGet H2 a y o∧Q (.bl o.isSome) H2
/-- d[y]=v -/
def sDPut (td ty tv : TE) : TS:=fun D σ H=>tv σ H fun v H1=>td σ H1 fun x H2=>ty σ H2 fun y H3=>∃ a H4,x = .ref a∧DPut H3 a y v H4∧D.nx σ H4

section
variable {X : Cx} {o i e value : Expr} {pos pos' tpos : Pos} {td ty tv : TE}
theorem pc_din (hu : X.A.units + 1 < cLine) (hi : PE X i ty) (ho : PE X o td) : PC X .In i o (tDIn ty td):=by
  intro pins s σ H Q I h
  refine thn (hi pins s σ H _ I h) fun iv s1 ⟨y,H1,I1,ry,q1⟩=>thn (ho pins s1 σ H1 _ I1 q1) fun u s2 ⟨x,H2,I2,rx,a,ov,ex,g,q2⟩=>?_
  subst ex
  obtain rfl : u=Value.ref a:=rx
  exact d_in hu I2 g ry fun s3 I3=>⟨.bl ov.isSome,H2,I3,rfl,q2⟩
theorem ps_dput (hu : X.A.units + 1 < cLine) (ho : PE X o td) (hi : PE X i ty) (hv : PE X value tv) (hs : swapsWith value (some (.Subscript o i pos')) pos.line X.env=pure false) :
    PS X (.Assign [.Subscript o i pos'] value pos) (sDPut td ty tv):=by
  intro pins s σ H D I h
  refine wpAny_Assign_Subscript (thn (hv pins s σ H _ I h) fun r s1 ⟨v,H1,I1,rv,q1⟩=>thn (ho pins s1 σ H1 _ I1 q1) fun u s2 ⟨x,H2,I2,rx,q2⟩=>thn (hi pins s2 σ H2 _ I2 q2) fun iv s3 ⟨y,H3,I3,ry,a,H4,ex,g,q3⟩=>?_) hs
  subst ex
  obtain rfl : u=Value.ref a:=rx
  exact y2m hu I3 g ry rv fun s4 I4=>⟨σ,H4,I4,q3⟩
end


/-! ### displays -/
theorem y5W {P : Program} {w : World} {H : Hp} (h : Heap) (hb : sysModules < h.objs.size) : ObjOk P w H (h.push { cls:=.type "dict",data:=.dict #[] }) h.objs.size (.dK []):=
  ⟨Nat.zero_le _,beq_eq_false_iff_ne.mpr (Ne.symm (Nat.ne_of_lt hb)),[],.nil,Heap.DictOf.new h⟩
/-- {},to be a dict of the kind that is wanted -/
def tDNewK : TE:=fun _ H Q=>∀ p,H p=none->Q (.ref p) (upd H p (.dK []))
section
variable {X : Cx} {pos : Pos}
theorem pe_dnewK : PE X (.Dict [] [] pos) tDNewK:=fun pins s σ H Q I h=>
  wpAny_Dict_empty ⟨.ref s.heap.objs.size,_,I.laid (a:=s.heap.objs.size) (o:=.dK []) (t':=s.toks) (fun _ _ q=>Heap.get?_push_of_some _ q) (Nat.le_refl _) (y5W s.heap I.big),rfl,h _ (I.hok.fresh (Nat.le_refl _))⟩
end




/-! ### methods -/
/-- a method call o.m(e) of a built-in,with one argument: what must be seen of the text -/
structure M1 (X : Cx) (o : Expr) (m : Str) (apos : Pos) (e : Expr) (cpos : Pos) : Prop where
  base : attributeBase o m X.env (eval o X.env)=eval o X.env
  few : ((backTo cpos (starEach [e] X.env)).all (fun x=>!x.1) && (backToKw cpos (keywordEach [] X.env)).all (fun x=>x.1.isSome)
    && decide (([e] : List Expr).length + ([] : List Keyword).length + (if ([] : List Keyword).isEmpty then 0 else 1) < 30))=true
  line : (apos.endLine == cpos.line)=true
  trees : backTo cpos (starEach [e] X.env)=[(false,eval e X.env)]
structure M2 (X : Cx) (o : Expr) (m : Str) (apos : Pos) (e f : Expr) (cpos : Pos) : Prop where
  base : attributeBase o m X.env (eval o X.env)=eval o X.env
  few : ((backTo cpos (starEach [e,f] X.env)).all (fun x=>!x.1) && (backToKw cpos (keywordEach [] X.env)).all (fun x=>x.1.isSome)
    && decide (([e,f] : List Expr).length + ([] : List Keyword).length + (if ([] : List Keyword).isEmpty then 0 else 1) < 30))=true
  line : (apos.endLine == cpos.line)=true
  trees : backTo cpos (starEach [e,f] X.env)=[(false,eval e X.env),(false,eval f X.env)]


section
variable {X : Cx} {pins : List (Addr × Obj)} {σ : St} {H : Hp} {s : Shared} {a : Addr} {y d : V} {u r : Value} {o : Option V} {A : Around} {E : Value->Shared->Prop}
end

section
variable {X : Cx} {o e f : Expr} {apos cpos : Pos} {td ty tx : TE}
end

/-! ### dict(d): a copy -/
section
variable {X : Cx} {pins : List (Addr × Obj)} {σ : St} {H : Hp} {s : Shared} {a : Addr} {kvs : List (Key × V)} {A : Around} {E : Value->Shared->Prop}
end


section
variable {X : Cx} {pins : List (Addr × Obj)} {σ : St} {H : Hp} {s : Shared} {a : Addr} {y : V} {u : Value} {A : Around} {E : Value->Shared->Prop}
end
end L2

/-! ### E1: list comprehensions over the hand layer -/
namespace L2
open PySem PySem.Spec PyProof.Rows

/-- the cells that a comprehension's block takes from around -/
def z2K (cells : List (Str × Addr)) : List (Str × NameKind)->List (Str × Addr)->List (Str × Addr)
  | [],acc=>acc
  | (n,k) :: r,acc=>if k == .free then z2K cells r ((n,(cells.lookup n).getD 0) :: acc) else z2K cells r acc

theorem z5f {env : Env} (f : Str × NameKind->List (Str × Addr)->Sem (ForInStep (List (Str × Addr))))
    (hf : ∀ n k cs,f (n,k) cs=if k == .free then (do let a ← cellOf env n; pure (.yield ((n,a) :: cs))) else pure (.yield cs)) :
    ∀ (names : List (Str × NameKind)) (acc : List (Str × Addr)),(∀ n,(n,NameKind.free)∈names->∃ c,env.cells.lookup n=some c)->forIn names acc f=pure (z2K env.cells names acc)
  | [],acc,_=>by rw [List.forIn_nil]; rfl
  | (n,k) :: r,acc,h=>by
    have hr:=z5f f hf r
    rw [List.forIn_cons,hf]
    unfold z2K
    by_cases hk : (k == NameKind.free)=true
    · rw [if_pos hk,if_pos hk]
      have ek : k = .free:=eq_of_beq hk
      subst ek
      obtain ⟨c,e⟩:=h n List.mem_cons_self
      have e1 : cellOf env n=pure c:=by unfold cellOf; rw [e]
      rw [e1,e]
      exact hr _ fun m hm=>h m (List.mem_cons_of_mem _ hm)
    · rw [if_neg hk,if_neg hk]
      exact hr _ fun m hm=>h m (List.mem_cons_of_mem _ hm)

theorem z2M {scope : Scope} {env : Env} (h : ∀ n,(n,NameKind.free)∈scope.names->∃ c,env.cells.lookup n=some c) : closureFor scope env=pure (z2K env.cells scope.names []):=by
  simp only [closureFor]
  rw [z5f _ (fun n k cs=>by cases hkc : k == NameKind.free <;> simp [hkc]) scope.names [] h]
  rfl

theorem z3f {cells : List (Str × Addr)} : ∀ (names : List (Str × NameKind)) (acc : List (Str × Addr)) {x : Str} {c : Addr},(x,c)∈z2K cells names acc->(x,c)∈acc∨((x,NameKind.free)∈names∧c=(cells.lookup x).getD 0)
  | [],_,_,_,h=>.inl h
  | (n,k) :: r,acc,x,c,h=>by
    unfold z2K at h
    by_cases hk : (k == NameKind.free)=true
    · rw [if_pos hk] at h
      have ek : k = .free:=eq_of_beq hk
      subst ek
      rcases z3f r _ h with z | ⟨z1,z2⟩
      · rcases List.mem_cons.mp z with q | q
        · cases q
          exact .inr ⟨List.mem_cons_self,rfl⟩
        · exact .inl q
      · exact .inr ⟨List.mem_cons_of_mem _ z1,z2⟩
    · rw [if_neg hk] at h
      rcases z3f r _ h with z | ⟨z1,z2⟩
      · exact .inl z
      · exact .inr ⟨List.mem_cons_of_mem _ z1,z2⟩

theorem z2m {α : Type} {x : Str} {c : α} : ∀ {l : List (Str × α)},(x,c)∈l->(l.lookup x).isSome=true
  | (n,d) :: r,h=>by
    rw [List.lookup_cons]
    cases hb : x == n with
    | true=>rfl
    | false=>
      rcases List.mem_cons.mp h with q | q
      · cases q
        simp at hb
      · exact z2m q

theorem z5v {cells : List (Str × Addr)} {x : Str} : ∀ (names : List (Str × NameKind)) (acc : List (Str × Addr)),(x,NameKind.free)∈names∨(∃ c,(x,c)∈acc)->∃ c,(x,c)∈z2K cells names acc
  | [],_,h=>h.elim (fun z=>nomatch z) id
  | (n,k) :: r,acc,h=>by
    unfold z2K
    by_cases hk : (k == NameKind.free)=true
    · rw [if_pos hk]
      refine z5v r _ ?_
      rcases h with z | ⟨c,z⟩
      · rcases List.mem_cons.mp z with q | q
        · cases q
          exact .inr ⟨_,List.mem_cons_self⟩
        · exact .inl q
      · exact .inr ⟨c,List.mem_cons_of_mem _ z⟩
    · rw [if_neg hk]
      refine z5v r _ ?_
      rcases h with z | z
      · rcases List.mem_cons.mp z with q | q
        · cases q
          exact absurd (by rfl) hk
        · exact .inl q
      · exact .inr z

theorem z2J : ∀ (names : List (Str × NameKind)) (h : Heap) (acc : List (Str × Addr)) {x : Str} {c : Addr},(x,c)∈cellsFrom h.objs.size names acc →
    (x,c)∈acc∨((x,NameKind.cell)∈names∧h.objs.size≤c∧(pushCells h names).IsCell c none)
  | [],_,_,_,_,hm=>.inl hm
  | (n,k) :: r,h,acc,x,c,hm=>by
    unfold cellsFrom at hm
    unfold pushCells
    by_cases hk : (k == NameKind.cell)=true
    · rw [if_pos hk] at hm
      rw [if_pos hk]
      have ek : k = .cell:=eq_of_beq hk
      subst ek
      have e : (h.push { cls:=.type "cell",data:=.cell none }).objs.size=h.objs.size + 1:=Heap.size_push ..
      rw [← e] at hm
      rcases z2J r _ _ hm with z | ⟨z1,z2,z3⟩
      · rcases List.mem_cons.mp z with q | q
        · cases q
          exact .inr ⟨List.mem_cons_self,Nat.le_refl _,⟨_,pushCells_keeps r _ _ _ (Heap.get?_push_size _ rfl),rfl⟩⟩
        · exact .inl q
      · exact .inr ⟨List.mem_cons_of_mem _ z1,by omega,z3⟩
    · rw [if_neg hk] at hm
      rw [if_neg hk]
      rcases z2J r h acc hm with z | ⟨z1,z2,z3⟩
      · exact .inl z
      · exact .inr ⟨List.mem_cons_of_mem _ z1,z2,z3⟩

theorem z2H {x : Str} : ∀ (names : List (Str × NameKind)) (n : Nat) (acc : List (Str × Addr)),(x,NameKind.cell)∈names∨(∃ c,(x,c)∈acc)->∃ c,(x,c)∈cellsFrom n names acc
  | [],_,_,h=>h.elim (fun z=>nomatch z) id
  | (y,k) :: r,n,acc,h=>by
    unfold cellsFrom
    by_cases hk : (k == NameKind.cell)=true
    · rw [if_pos hk]
      refine z2H r _ _ ?_
      rcases h with z | ⟨c,z⟩
      · rcases List.mem_cons.mp z with q | q
        · cases q
          exact .inr ⟨_,List.mem_cons_self⟩
        · exact .inl q
      · exact .inr ⟨c,List.mem_cons_of_mem _ z⟩
    · rw [if_neg hk]
      refine z2H r _ _ ?_
      rcases h with z | z
      · rcases List.mem_cons.mp z with q | q
        · cases q
          exact absurd (by rfl) hk
        · exact .inl q
      · exact .inr z

theorem z2F (lo : Nat) : ∀ (names : List (Str × NameKind)) (n : Nat) (acc : List (Str × Addr)),(∀ x y c,(x,c)∈acc->(y,c)∈acc->lo≤c->x=y)->(∀ p∈acc,p.2 < n) →
    ∀ x y c,(x,c)∈cellsFrom n names acc->(y,c)∈cellsFrom n names acc->lo≤c->x=y
  | [],_,_,h,_=>h
  | (m,k) :: r,n,acc,h,hb=>by
    unfold cellsFrom
    by_cases hk : (k == NameKind.cell)=true
    · rw [if_pos hk]
      refine z2F lo r (n + 1) ((m,n) :: acc) (fun x y c hx hy hc=>?_) fun p hp=>?_
      · rcases List.mem_cons.mp hx with q | q <;> rcases List.mem_cons.mp hy with q' | q'
        · cases q; cases q'; rfl
        · cases q
          exact absurd (hb _ q') (Nat.lt_irrefl _)
        · cases q'
          exact absurd (hb _ q) (Nat.lt_irrefl _)
        · exact h x y c q q' hc
      · rcases List.mem_cons.mp hp with q | q
        · cases q; exact Nat.lt_succ_self _
        · exact Nat.lt_succ_of_lt (hb p q)
    · rw [if_neg hk]
      exact z2F lo r n acc h hb

/-- a name's kind within the block -/
theorem z3w (env : Env) (x : Str) : ∀ names : List (Str × NameKind),
    (names.map fun (n,k)=>if (k == NameKind.free && env.scope.kind == .function && env.kindOf n == some .cell) then (n,NameKind.cell) else (n,k)).lookup x =
      (names.lookup x).map fun k=>if (k == NameKind.free && env.scope.kind == .function && env.kindOf x == some .cell) then NameKind.cell else k
  | []=>rfl
  | (n,k) :: r=>by
    have ih:=z3w env x r
    show List.lookup x ((if (k == NameKind.free && env.scope.kind == .function && env.kindOf n == some .cell)=true then (n,NameKind.cell) else (n,k)) :: _)=_
    cases hx : x == n with
    | true=>
      have e:=eq_of_beq hx
      subst e
      by_cases hc : (k == NameKind.free && env.scope.kind == .function && env.kindOf x == some .cell)=true
      · rw [if_pos hc]
        simp only [List.lookup_cons,beq_self_eq_true,Option.map_some,hc,if_true]
      · rw [if_neg hc]
        simp only [List.lookup_cons,beq_self_eq_true,Option.map_some]
        rw [if_neg hc]
    | false=>
      by_cases hc : (k == NameKind.free && env.scope.kind == .function && env.kindOf n == some .cell)=true
      · rw [if_pos hc]; simp only [List.lookup_cons,hx]; exact ih
      · rw [if_neg hc]; simp only [List.lookup_cons,hx]; exact ih

theorem z2r {M : Model} {A : Around} {E : Value->Shared->Prop} {s : Shared} {scope : Scope} {globals : Addr} {closure : List (Str × Addr)} {qual : Str} {env : Env} {Q : Env->Shared->Prop}
    (hQ : Q (newEnv scope s.heap.objs.size globals (cellsFrom (s.heap.objs.size + 1) scope.names closure) qual none .none (some env) builtinsNs)
      { s with heap:=pushCells (s.heap.push { cls:=.type "dict",data:=.dict #[] }) scope.names }) :
    wpAny M A (newFunctionEnv scope globals closure [] qual none .none (some env)) Q E s:=by
  simp only [newFunctionEnv,Option.isSome_some,if_true]
  refine wpAny_bind (wpAny_alloc ?_)
  refine wpAny_bind (wpAny_layCells _ (fun name kind cells=>by cases hkc : kind == NameKind.cell <;> simp [hkc]) _ _ _ _ ?_)
  rw [show ({ s with heap:=s.heap.push { cls:=.type "dict",data:=.dict #[] } } : Shared).heap.objs.size=s.heap.objs.size + 1 from Heap.size_push ..]
  refine wpAny_bind ?_
  rw [List.forIn_nil]
  exact wpAny_pure (wpAny_pure hQ)

/-! ### the block's context -/
/-- which names of around are taken; each slot of around is taken under its own name,or not seen -/
def capOk (out names : List (Str × NameKind)) : Bool:=names.all fun p=>!(decide (p.2=NameKind.free)) || (decide (out.lookup p.1=some NameKind.cell) || decide (out.lookup p.1=some NameKind.free))
def nmOk (N N' : List Str) (names : List (Str × NameKind)) : Bool:=(List.range N.length).all fun i=>match N'[i]? with
  | some y=>decide (names.lookup y=none) || (decide (names.lookup y=some NameKind.free) && decide (N[i]? = some y))
  | none=>false
structure CompScope (N : List Str) (out : List (Str × NameKind)) (N' : List Str) (k : Nat) (sc : Scope) : Prop where
  kind : sc.kind = .function
  len : N'.length=N.length + k
  cap : capOk out sc.names=true
  nm : nmOk N N' sc.names=true
  uniq : sc.names.all (fun p=>decide (sc.names.lookup p.1=some p.2))=true

def z0L (X : Cx) (N' : List Str) (sc : Scope) (s : Shared) (H : Hp) (fp : List Addr) (pins : List (Addr × Obj)) (E : Value->Shared->Prop) : Cx where
  prog:=X.prog
  w:=X.w
  K:=X.K
  mg:=X.mg
  base:=X.base
  A:=X.A
  N:=N'
  s₀:=s
  H₀:=H
  env:=compEnvC sc (cellsFrom (s.heap.objs.size + 1) sc.names (z2K X.env.cells sc.names [])) s.heap.objs.size X.env
  outer:=X.stack
  stack:=X.stack
  ex:=fp
  fn:=fun x=>decide (sc.names.lookup x=some .cell)
  calm:=X.calm
  pn:=X.pn ++ pins
  xe:=E

section
variable {X : Cx} {N' : List Str} {k : Nat} {sc : Scope} {pins : List (Addr × Obj)} {σ : St} {H : Hp} {s : Shared} {fp : List Addr} {E : Value->Shared->Prop}

theorem CompScope.fr (S : CompScope X.N X.env.scope.names N' k sc) {x : Str} (h : (x,NameKind.free)∈sc.names) : X.env.kindOf x=some .cell∨X.env.kindOf x=some .free:=by
  have q:=List.all_eq_true.mp S.cap _ h
  simp at q
  exact q
theorem CompScope.look {N : List Str} {out : List (Str × NameKind)} (S : CompScope N out N' k sc) {x : Str} {kd : NameKind} (h : (x,kd)∈sc.names) : sc.names.lookup x=some kd:=by
  have q:=List.all_eq_true.mp S.uniq _ h
  exact of_decide_eq_true q

theorem y7e (S : CompScope X.N X.env.scope.names N' k sc) (I : Inv X pins σ H s) (hf : ∀ b∈fp,z8N X pins H b) (hlt : ∀ b∈fp,b < s.heap.objs.size) :
    Inv (z0L X N' sc s H fp pins E) [] (σ ++ List.replicate k none) H { s with heap:=pushCells (s.heap.push { cls:=.type "dict",data:=.dict #[] }) sc.names }:=by
  have keeps : ∀ b o,s.heap.get? b=some o->(pushCells (s.heap.push { cls:=.type "dict",data:=.dict #[] }) sc.names).get? b=some o:=fun b o e=>pushCells_keeps _ _ _ _ (Heap.get?_push_of_some _ e)
  have hsz : (s.heap.push { cls:=.type "dict",data:=.dict #[] }).objs.size=s.heap.objs.size + 1:=Heap.size_push ..
  have hns : (pushCells (s.heap.push { cls:=.type "dict",data:=.dict #[] }) sc.names).Ns s.heap.objs.size (fun _=>none):=(Heap.Ns.new s.heap (.type "dict")).keeps (pushCells_keeps _ _)
  have frc : ∀ x,(x,NameKind.free)∈sc.names->∃ c,X.env.cells.lookup x=some c:=fun x h=>I.ok.has x (S.fr h)
  -- what a cell of the block is
  have cm : ∀ x c,(x,c)∈cellsFrom (s.heap.objs.size + 1) sc.names (z2K X.env.cells sc.names []) →
      ((x,NameKind.cell)∈sc.names∧s.heap.objs.size + 1≤c∧(pushCells (s.heap.push { cls:=.type "dict",data:=.dict #[] }) sc.names).IsCell c none)∨((x,NameKind.free)∈sc.names∧X.env.cells.lookup x=some c):=fun x c h=>by
    rw [← hsz] at h
    rcases z2J _ _ _ h with z | ⟨z1,z2,z3⟩
    · rcases z3f _ _ z with z | ⟨z1,z2⟩
      · exact nomatch z
      · obtain ⟨c',e⟩:=frc x z1
        rw [e] at z2
        cases z2
        exact .inr ⟨z1,e⟩
    · exact .inl ⟨z1,by omega,z3⟩
  have cl : ∀ x c,(cellsFrom (s.heap.objs.size + 1) sc.names (z2K X.env.cells sc.names [])).lookup x=some c->(x,c)∈cellsFrom (s.heap.objs.size + 1) sc.names (z2K X.env.cells sc.names []):=fun x c h=>PySem.mem_of_lookup h
  have clt : ∀ x c,X.env.cells.lookup x=some c->c < s.heap.objs.size:=fun x c h=>by
    obtain ⟨v,q⟩:=I.cell x c h
    exact q.lt
  have has : ∀ x,(x,NameKind.cell)∈sc.names∨(x,NameKind.free)∈sc.names->∃ c,(cellsFrom (s.heap.objs.size + 1) sc.names (z2K X.env.cells sc.names [])).lookup x=some c:=fun x h=>by
    obtain ⟨c,hc⟩:=z2H (x:=x) sc.names (s.heap.objs.size + 1) (z2K X.env.cells sc.names []) (h.imp id fun z=>z5v _ _ (.inl z))
    exact Option.isSome_iff_exists.mp (z2m hc)
  have kd : ∀ x kk,(relabel sc X.env).names.lookup x=some kk->∃ k0,sc.names.lookup x=some k0∧(kk=k0∨(k0 = .free∧kk = .cell)):=fun x kk h=>by
    have q:=z3w X.env x sc.names
    have h' : (sc.names.map fun (n,k)=>if (k == NameKind.free && X.env.scope.kind == .function && X.env.kindOf n == some .cell) then (n,NameKind.cell) else (n,k)).lookup x=some kk:=h
    rw [q] at h'
    cases e : sc.names.lookup x with
    | none=>rw [e] at h'; cases h'
    | some k0=>
      rw [e] at h'
      simp only [Option.map_some,Option.some.injEq] at h'
      refine ⟨k0,rfl,?_⟩
      split at h'
      · rename_i hc
        simp at hc
        exact .inr ⟨hc.1.1,h'.symm⟩
      · exact .inl h'.symm
  refine ⟨⟨I.ok.mod,S.kind,I.ok.glob,I.ok.blt,Nat.le_refl _,?inj,?has,?cab,I.ok.hd,I.ok.frames,.inl rfl,?exf,I.bs,Nat.le_trans I.ok.bsz I.sz,?noex,?exfs,I.stack,I.stkFree⟩,
    rfl,I.bare,Un.kept keeps,⟨_,hns,?loc⟩,?cell,I.hok.fresh (Nat.le_refl _),?freeC,?pin,I.hok.kept keeps,?len⟩
  case inj=>
    intro x y c h1 h2
    rcases cm x c (cl x c h1) with ⟨_,l1,_⟩ | ⟨m1,e1⟩
    · rcases cm y c (cl y c h2) with ⟨_,l2,_⟩ | ⟨m2,e2⟩
      · refine z2F (s.heap.objs.size + 1) sc.names (s.heap.objs.size + 1) (z2K X.env.cells sc.names []) (fun x y c hx _ hc=>?_) (fun p hp=>?_) x y c (cl x c h1) (cl y c h2) l1
        · rcases z3f _ _ hx with z | ⟨z1,z2⟩
          · exact nomatch z
          · obtain ⟨c',e⟩:=frc x z1
            rw [e] at z2
            have z3 : c=c':=z2
            subst z3
            exact absurd (clt x c e) (Nat.not_lt.mpr (Nat.le_of_succ_le hc))
        · obtain ⟨x,c⟩:=p
          rcases z3f _ _ hp with z | ⟨z1,z2⟩
          · exact nomatch z
          · obtain ⟨c',e⟩:=frc x z1
            rw [e] at z2
            have z3 : c=c':=z2
            subst z3
            exact Nat.lt_succ_of_lt (clt x c e)
      · exact absurd (clt y c e2) (Nat.not_lt.mpr (Nat.le_of_succ_le l1))
    · rcases cm y c (cl y c h2) with ⟨_,l2,_⟩ | ⟨m2,e2⟩
      · exact absurd (clt x c e1) (Nat.not_lt.mpr (Nat.le_of_succ_le l2))
      · exact I.ok.inj x y c e1 e2
  case has=>
    intro x hx
    refine has x ?_
    rcases hx with hx | hx
    · obtain ⟨k0,e,h⟩:=kd x _ hx
      rcases h with h | ⟨h,_⟩
      · subst h; exact .inl (PySem.mem_of_lookup e)
      · subst h; exact .inr (PySem.mem_of_lookup e)
    · obtain ⟨k0,e,h⟩:=kd x _ hx
      rcases h with h | ⟨_,h⟩
      · subst h; exact .inr (PySem.mem_of_lookup e)
      · cases h
  case cab=>
    intro x c hfn h
    have hfn' : sc.names.lookup x=some NameKind.cell:=of_decide_eq_true hfn
    rcases cm x c (cl x c h) with ⟨_,l,_⟩ | ⟨m,_⟩
    · exact Nat.le_of_succ_le l
    · rw [S.look m] at hfn'; cases hfn'
  case exf=>
    intro b hb
    refine ⟨Nat.ne_of_lt (hlt b hb),fun x c h=>?_⟩
    rcases cm x c (cl x c h) with ⟨_,l,_⟩ | ⟨_,e⟩
    · intro z
      subst z
      exact absurd (hlt c hb) (Nat.not_lt.mpr (Nat.le_of_succ_le l))
    · exact (hf b hb).2.2.2.2.1 x c e
  case noex=>
    intro b o e hb
    rcases (hf b hb).2.2.2.1 with z | z
    · exact I.ok.noex b o e z
    · exact absurd (Nat.lt_of_lt_of_le (Heap.lt_size e) (Nat.le_trans I.ok.bsz z)) (Nat.lt_irrefl _)
  case exfs=>exact fun b hb z=>(List.mem_cons.mp (I.stkSub b z)).elim (hf b hb).2.1 (hf b hb).2.2.1
  case loc=>
    intro i y v h1 h2 h3
    have hl:=I.len
    by_cases hi : i < σ.length
    · rw [List.getElem?_append_left hi] at h2
      have q:=List.all_eq_true.mp S.nm i (List.mem_range.mpr (by omega))
      have h1' : N'[i]? = some y:=h1
      simp only [h1',Bool.or_eq_true,Bool.and_eq_true,decide_eq_true_eq] at q
      rcases q with q | ⟨q1,q2⟩
      · exfalso
        rcases h3 with z | z | z <;> (obtain ⟨k0,e,_⟩:=kd y _ z; rw [q] at e; cases e)
      · have hm:=PySem.mem_of_lookup q1
        obtain ⟨m,hn,hloc⟩:=I.loc
        have kk:=S.fr hm
        obtain ⟨u,r,l⟩:=hloc i y v q2 h2 (kk.elim (fun z=>.inr (.inl z)) fun z=>.inr (.inr z))
        refine ⟨u,r,.inr ⟨?_,?_⟩⟩
        · rcases h3 with z | z | z
          · obtain ⟨k0,e,h⟩:=kd y _ z
            rw [q1] at e
            cases e
            rcases h with h | ⟨_,h⟩ <;> cases h
          · exact .inl z
          · exact .inr z
        · rcases l with ⟨l,_⟩ | ⟨_,c,ec,hc⟩
          · rcases kk with z | z <;> (rw [z] at l; cases l)
          · obtain ⟨c',e'⟩:=has y (.inr hm)
            refine ⟨c',e',?_⟩
            rcases cm y c' (cl y c' e') with ⟨m',_⟩ | ⟨_,e2⟩
            · have:=S.look m'
              rw [q1] at this
              cases this
            · rw [ec] at e2
              cases e2
              exact hc.keeps keeps
    · rw [List.getElem?_append_right (by omega),List.getElem?_replicate] at h2
      split at h2 <;> cases h2
  case cell=>
    intro x c h
    rcases cm x c (cl x c h) with ⟨_,_,q⟩ | ⟨_,e⟩
    · exact ⟨_,q⟩
    · obtain ⟨v,q⟩:=I.cell x c e
      exact ⟨v,q.keeps keeps⟩
  case freeC=>
    intro x c h
    rcases cm x c (cl x c h) with ⟨_,l,_⟩ | ⟨_,e⟩
    · exact I.hok.fresh (Nat.le_of_succ_le l)
    · exact I.freeC x c e
  case pin=>
    intro p hp
    have hp' : p∈X.pn ++ pins:=by
      rcases List.mem_append.mp hp with z | z
      · exact z
      · exact nomatch z
    obtain ⟨e,n,ne,nf,d⟩:=I.pin p hp'
    exact ⟨keeps _ _ e,n,Nat.ne_of_lt (Heap.lt_size e),fun z=>(List.mem_cons.mp (I.stkSub p.1 z)).elim ne nf,d⟩
  case len=>
    show _=N'.length
    rw [List.length_append,List.length_replicate,S.len,I.len]

/-- behind the block -/
theorem z7F {σ' : St} {H' : Hp} {s' : Shared} (I : Inv X pins σ H s) (hf : ∀ b∈fp,z8N X pins H b) (J : Inv (z0L X N' sc s H fp pins E) [] σ' H' s') : Inv X pins σ H' s':=
  I.call' J.os J.base J.hok J.bare fun b hb=>⟨(hf b hb).2.2.2.1,(hf b hb).2.1,(hf b hb).2.2.2.2.1,(hf b hb).2.2.2.2.2⟩
/-- the block's names are let go -/
theorem y3R {H' : Hp} {s' : Shared} {h' : Heap} (I : Inv X pins σ H s) (J : Inv X pins σ H' s') (hn : H' s.heap.objs.size=none) (hb : Heap.SameBut s.heap.objs.size s'.heap h') : Inv X pins σ H' { s' with heap:=h' }:=by
  refine J.turned (t':=s'.toks) (it:=s.heap.objs.size) (fun b o hne e=>(hb.2 b hne).trans e) hn (Nat.ne_of_gt I.lt) (.inr I.sz) (fun x c e=>?_) fun p hp=>?_
  · obtain ⟨v,q⟩:=I.cell x c e
    exact Nat.ne_of_lt q.lt
  · exact Nat.ne_of_lt (Heap.lt_size (I.pin p hp).1)
end

/-! ### the loop -/
theorem z8a {prog : Program} {w : World} {A : Around} {R : Result->Shared->Prop} {s : Shared} {elt target iter : Expr} {ifs : List Expr} {scope : Scope} {pos : Pos} {it acc : Value} {env : Env} (I : Nat->Shared->Prop)
    (turn : ∀ n s,I n s->wpAny (model prog w) A (pyNext it) (fun r s₁=>match r with
      | none=>R (.ok .next) s₁
      | some v=>wpAny (model prog w) A (letOwnedTupleGo target it v) (fun _ s₁'=>wpAny (model prog w) A (assign target env v) (fun _ s₂=>
          wpAny (model prog w) A (forIn ifs true fun c r=>if r=true then do let ok ← isTrue c env (eval c env); pure (ForInStep.yield ok) else pure (ForInStep.yield r)) (fun ok s₃=>
            if ok=true then wpAny (model prog w) A (eval elt env) (fun x s₄=>
              wpAny (model prog w) A (call (.builtin "list.append") [acc,x]) (fun _ s₅=>∃ m,m < n∧I m s₅) (notedBy (model prog w) A env fun e s'=>R (.error e) s') s₄) (notedBy (model prog w) A env fun e s'=>R (.error e) s') s₃
            else ∃ m,m < n∧I m s₃) (notedBy (model prog w) A env fun e s'=>R (.error e) s') s₂) (notedBy (model prog w) A env fun e s'=>R (.error e) s') s₁') (notedBy (model prog w) A env fun e s'=>R (.error e) s') s₁) (notedBy (model prog w) A env fun e s'=>R (.error e) s') s)
    (n : Nat) (h : I n s) :
    codeAny (model prog w) A (.compLoop (.ListComp elt [⟨target,iter,ifs,0⟩] scope pos) 0 it acc env) R s:=by
  refine codeAny_loop rfl I (fun n s hI=>?_) n h
  show wpAny _ A ((compTurn (.ListComp elt [⟨target,iter,ifs,0⟩] scope pos) 0 it acc env).onRaise (fun x=>do noteFrame x env; theTreesLotGoes x)) _ _ s
  refine wpAny_noted ?_
  rw [compTurn_list]
  refine wpAny_bind (wpAny_standAt (wpAny_bind (wpAny_mono (turn n s hI) (fun r s₁ h₁=>?_) fun _ _ h'=>h')))
  cases r with
  | none=>exact wpAny_pure h₁
  | some v=>
    refine wpAny_bind (wpAny_mono h₁ (fun _ s₁' h₁'=>?_) fun _ _ h'=>h')
    refine wpAny_bind (wpAny_mono h₁' (fun _ s₂ h₂=>wpAny_bind (wpAny_mono h₂ (fun ok s₃ h₃=>?_) fun _ _ h'=>h')) fun _ _ h'=>h')
    cases ok with
    | false=>exact wpAny_pure ⟨rfl,h₃⟩
    | true=>
      exact wpAny_bind (wpAny_bind (wpAny_mono h₃ (fun x s₄ h₄=>wpAny_bind (wpAny_mono h₄ (fun _ s₅ h₅=>wpAny_pure (wpAny_pure ⟨rfl,h₅⟩)) fun _ _ h'=>h')) fun _ _ h'=>h'))

/-- the tests of a clause -/
def y6w (X : Cx) (ifs : List Expr) (t : TT) : Prop:=
  ∀ (pins : List (Addr × Obj)) (s : Shared) (σ : St) (H : Hp) (Q : Bool->Hp->Prop),Inv X pins σ H s->t σ H Q →
    wpAny (model X.prog X.w) X.A (forIn ifs true fun c r=>if r=true then do let ok ← isTrue c X.env (eval c X.env); pure (ForInStep.yield ok) else pure (ForInStep.yield r)) (TP X pins σ Q) X.xe s
def tYes : TT:=fun _ H Q=>Q true H
theorem y5K {X : Cx} : y6w X [] tYes:=fun _ _ _ H _ I h=>wpAny_tests_nil ⟨H,I,h⟩
theorem y5P {X : Cx} {c : Expr} {t : TT} (h : PT X c t) : y6w X [c] t:=fun pins s σ H Q I hw=>wpAny_tests_one (h pins s σ H Q I hw)

/-- the reading of a comprehension: W is the invariant by the turn and a measure,the result grows at D -/
def y4a (wi : TI) (g : TG) (tc : TT) (te : TE) (k : Nat) : TE:=fun σ H Q=>wi σ H fun J H1=>∀ D,H1 D=none →
  ∃ W : Nat->Nat->St->Hp->Prop,(∃ m,W 0 m (σ ++ List.replicate k none) (upd H1 D (.lst [])))∧∀ i m σ' H',W i m σ' H' →
    (J.stop i H'∧Q (.ref D) H')∨(J.go i H'∧∃ N : St->Hp->Prop,(∀ σ'' H'',N σ'' H''->∃ m',m' < m∧W (i + 1) m' σ'' H'') ∧
      ∀ x H2,J.yld i H' x H2->g x σ' H2 fun σ2 H3=>tc σ2 H3 fun b H4=>if b=true then te σ2 H4 fun y H5=>∃ ys,H5 D=some (.lst ys)∧ys.length < sizeLine∧N σ2 (upd H5 D (.lst (ys ++ [y]))) else N σ2 H4)

/-- the parts of a comprehension,in its block -/
structure PComp (X : Cx) (N' : List Str) (sc : Scope) (tg : Expr) (ifs : List Expr) (elt : Expr) (g : TG) (tc : TT) (te : TE) : Prop where
  pg : ∀ s H fp pins E,PG (z0L X N' sc s H fp pins E) tg g
  pt : ∀ s H fp pins E,y6w (z0L X N' sc s H fp pins E) ifs tc
  pe : ∀ s H fp pins E,PE (z0L X N' sc s H fp pins E) elt te

section
variable {X : Cx} {N' : List Str} {k : Nat} {sc : Scope} {tg iter elt : Expr} {ifs : List Expr} {pos : Pos} {g : TG} {tc : TT} {te : TE} {wi : TI}

theorem z6h {pins : List (Addr × Obj)} {σ : St} {H : Hp} {s : Shared} {J : It} {fp : List Addr} {it : Addr} {tn : Nat->Heap->Prop} {Q : VK} {E : Value->Shared->Prop} {RR : Value->Addr->Result->Shared->Prop}
    (hc : X.calm=true) (S : CompScope X.N X.env.scope.names N' k sc) (P : PComp X N' sc tg ifs elt g tc te) (I : Inv X pins σ H s) (T : Turn X.prog X.w X.K tg J fp it tn) (st : tn 0 s.heap) (hf : ∀ b∈fp,z8N X pins H b)
    (hW : ∀ D,H D=none->∃ W : Nat->Nat->St->Hp->Prop,(∃ m,W 0 m (σ ++ List.replicate k none) (upd H D (.lst [])))∧∀ i m σ' H',W i m σ' H' →
      (J.stop i H'∧Q (.ref D) H')∨(J.go i H'∧∃ N : St->Hp->Prop,(∀ σ'' H'',N σ'' H''->∃ m',m' < m∧W (i + 1) m' σ'' H'') ∧
        ∀ x H2,J.yld i H' x H2->g x σ' H2 fun σ2 H3=>tc σ2 H3 fun b H4=>if b=true then te σ2 H4 fun y H5=>∃ ys,H5 D=some (.lst ys)∧ys.length < sizeLine∧N σ2 (upd H5 D (.lst (ys ++ [y]))) else N σ2 H4))
    (hR : ∀ D s3 H3 σ' H' s' E',Inv X pins σ H3 s3->(∀ b∈fp,z8N X pins H3 b)->Inv (z0L X N' sc s3 H3 fp pins E') [] σ' H' s'->Q (.ref D) H'->RR (.ref D) s3.heap.objs.size (.ok .next) s') :
    wpAny (model X.prog X.w) X.A (newList []) (fun acc s₃=>wpAny (model X.prog X.w) X.A (newFunctionEnv sc X.env.globals (z2K X.env.cells sc.names []) [] X.env.qual none .none (some X.env)) (fun cenv s₄=>
      codeAny (model X.prog X.w) X.A (.compStart (.ListComp elt [⟨tg,iter,ifs,0⟩] sc pos) 0 (.ref it) acc { cenv with scope:=relabel sc X.env }) (RR acc cenv.locals) s₄) E s₃) E s:=by
  obtain ⟨W,⟨m0,w0⟩,step⟩:=hW s.heap.objs.size (I.hok.fresh (Nat.le_refl _))
  have I3 : Inv X pins σ (upd H s.heap.objs.size (.lst [])) { s with heap:=s.heap.push { cls:=.type "list",data:=.seq ([] : List Value).toArray },toks:=s.toks }:=I.lnew (t':=s.toks) .nil (Nat.zero_le _)
  have lt0 : ∀ b∈fp,b < s.heap.objs.size:=fun b hb=>by
    obtain ⟨o,e,_⟩:=T.obj 0 _ st b hb
    exact Heap.lt_size e
  have hf3 : ∀ b∈fp,z8N X pins (upd H s.heap.objs.size (.lst [])) b:=fun b hb=>⟨by rw [z0s (Nat.ne_of_lt (lt0 b hb))]; exact (hf b hb).1,(hf b hb).2⟩
  have lt3 : ∀ b∈fp,b < (s.heap.push { cls:=.type "list",data:=.seq ([] : List Value).toArray }).objs.size:=fun b hb=>by
    rw [Heap.size_push]
    exact Nat.lt_succ_of_lt (lt0 b hb)
  refine wpAny_newObj_type (z2r ?_)
  generalize hs3 : ({ s with heap:=s.heap.push { cls:=.type "list",data:=.seq ([] : List Value).toArray },toks:=s.toks } : Shared)=s3 at I3
  have hsh : s3.heap=s.heap.push { cls:=.type "list",data:=.seq ([] : List Value).toArray }:=by rw [← hs3]
  rw [← hsh] at lt3
  have st3 : tn 0 s3.heap:=T.keep _ _ _ st fun b _ o e=>by rw [hsh]; exact Heap.get?_push_of_some _ e
  show codeAny _ _ (.compStart _ 0 (.ref it) (.ref s.heap.objs.size) (compEnvC sc (cellsFrom (s3.heap.objs.size + 1) sc.names (z2K X.env.cells sc.names [])) s3.heap.objs.size X.env)) (RR (.ref s.heap.objs.size) s3.heap.objs.size)
    { s3 with heap:=pushCells (s3.heap.push { cls:=.type "dict",data:=.dict #[] }) sc.names }
  generalize hD : s.heap.objs.size=D at *
  generalize hEn : (notedBy (model X.prog X.w) X.A (compEnvC sc (cellsFrom (s3.heap.objs.size + 1) sc.names (z2K X.env.cells sc.names [])) s3.heap.objs.size X.env) fun e s'=>RR (.ref D) s3.heap.objs.size (.error e) s')=En
  have I4 : Inv (z0L X N' sc s3 (upd H D (.lst [])) fp pins En) [] (σ ++ List.replicate k none) (upd H D (.lst [])) { s3 with heap:=pushCells (s3.heap.push { cls:=.type "dict",data:=.dict #[] }) sc.names }:=y7e S I3 hf3 lt3
  have st4 : tn 0 (pushCells (s3.heap.push { cls:=.type "dict",data:=.dict #[] }) sc.names):=T.keep _ _ _ st3 fun b _ o e=>pushCells_keeps _ _ _ _ (Heap.get?_push_of_some _ e)
  have stat : ∀ {H' : Hp},(∀ b∈fp,H' b=none)->∀ b∈fp,z8N (z0L X N' sc s3 (upd H D (.lst [])) fp pins En) [] H' b:=fun hn b hb=>
    ⟨hn b hb,(I4.ok.exf b hb).1,I4.ok.exfs b hb,.inl hb,(I4.ok.exf b hb).2,fun p hp=>(hf3 b hb).2.2.2.2.2 p (by
      rcases List.mem_append.mp hp with z | z
      · exact z
      · exact nomatch z)⟩
  have loop : codeAny (model X.prog X.w) X.A (.compLoop (.ListComp elt [⟨tg,iter,ifs,0⟩] sc pos) 0 (.ref it) (.ref D) (z0L X N' sc s3 (upd H D (.lst [])) fp pins En).env) (RR (.ref D) s3.heap.objs.size)
      { s3 with heap:=pushCells (s3.heap.push { cls:=.type "dict",data:=.dict #[] }) sc.names }:=by
    refine z8a (fun n s'=>∃ i σ' H',Inv (z0L X N' sc s3 (upd H D (.lst [])) fp pins En) [] σ' H' s'∧tn i s'.heap∧(∀ b∈fp,H' b=none)∧W i n σ' H') ?_ m0 ⟨0,_,_,I4,st4,fun b hb=>(hf3 b hb).1,w0⟩
    have eEn : (notedBy (model X.prog X.w) X.A (z0L X N' sc s3 (upd H D (.lst [])) fp pins En).env fun e s'=>RR (.ref D) s3.heap.objs.size (.error e) s')=En:=hEn
    rw [eEn]
    rintro n s5 ⟨i,σ5,H5,I5,st5,fr5,w5⟩
    rcases step i n σ5 H5 w5 with ⟨stop,qn⟩ | ⟨go,N,hN,turn⟩
    · refine thn (T.done (z0L X N' sc s3 (upd H D (.lst [])) fp pins En) rfl rfl rfl hc i [] s5 σ5 H5 En I5 (stat fr5) st5 stop) fun r s6 ⟨hr,I6⟩=>?_
      subst hr
      exact hR D s3 _ σ5 H5 s6 En I3 hf3 I6 qn
    · refine thn (T.item (z0L X N' sc s3 (upd H D (.lst [])) fp pins En) rfl rfl rfl hc i [] s5 σ5 H5 En I5 (stat fr5) st5 go) fun r s6 ⟨u,hr,h6⟩=>?_
      subst hr
      refine thn h6 fun _ s7 ⟨x,H7,I7,r7,y7,st7,fr7⟩=>?_
      have I7':=I7.pinned (stat fr7) (T.obj _ _ st7)
      have back : ∀ {σ9 : St} {H9 : Hp} {s9 : Shared},Inv (z0L X N' sc s3 (upd H D (.lst [])) fp pins En) ([] ++ z8k fp s7.heap) σ9 H9 s9->N σ9 H9 →
          ∃ m,m < n∧∃ i σ' H',Inv (z0L X N' sc s3 (upd H D (.lst [])) fp pins En) [] σ' H' s9∧tn i s9.heap∧(∀ b∈fp,H' b=none)∧W i m σ' H':=fun {σ9 H9 s9} I9 n9=>by
        obtain ⟨m',hm,w9⟩:=hN σ9 H9 n9
        refine ⟨m',hm,i + 1,σ9,H9,I9.unpinned,T.keep _ _ _ st7 fun b hb o e=>(I9.pin (b,o) (List.mem_append_right _ (List.mem_append_right _ (z3o hb e)))).1,fun b hb=>?_,w9⟩
        obtain ⟨o,e,d⟩:=T.obj _ _ st7 b hb
        exact (I9.pin (b,o) (List.mem_append_right _ (List.mem_append_right _ (z3o hb e)))).2.1
      refine thn (P.pg s3 _ fp pins En _ s7 σ5 H7 x u _ I7' r7 (turn x H7 y7)) fun _ s8 ⟨σ8,H8,I8,q8⟩=>?_
      refine thn (P.pt s3 _ fp pins En _ s8 σ8 H8 _ I8 q8) fun ok s9 ⟨H9,I9,q9⟩=>?_
      cases ok with
      | false=>
        rw [if_neg Bool.false_ne_true] at q9
        rw [if_neg Bool.false_ne_true]
        exact back I9 q9
      | true=>
        rw [if_pos rfl] at q9
        rw [if_pos rfl]
        refine thn (P.pe s3 _ fp pins En _ s9 σ8 H9 _ I9 q9) fun y s10 ⟨yv,H10,I10,r10,ys,hys,hl,q10⟩=>?_
        refine thn (z2f _ s10 σ8 H10 (.ref D) [yv] (.ref D) [y] (fun _ H'=>N σ8 H') I10 rfl (.cons r10 .nil) ⟨D,ys,yv,rfl,rfl,hys,hl,q10⟩) fun _ s11 ⟨_,H11,I11,_,q11⟩=>?_
        exact back I11 q11
  exact codeAny_compStart_list loop (T.self X.A 0 _ _ _ st4 loop)

theorem CompScope.names' {N : List Str} {out : List (Str × NameKind)} (S : CompScope N out N' k sc) : ∀ x∈sc.names,x.2 = .local->sc.names.lookup x.1=some .local:=fun x hx e=>by
  obtain ⟨n,kd⟩:=x
  have e' : kd = .local:=e
  subst e'
  exact S.look hx

theorem y2T (hc : X.calm=true) (S : CompScope X.N X.env.scope.names N' k sc) (hi : PI X tg iter wi) (P : PComp X N' sc tg ifs elt g tc te) (hs : ∀ x,foldedSetIterable iter X.env x=pure x:=by intro _; rfl) :
    PE X (.ListComp elt [⟨tg,iter,ifs,0⟩] sc pos) (y4a wi g tc te k):=by
  intro pins s σ H Q I h
  rw [eval_ListComp]
  refine wpAny_comprehension_free (use:=none) rfl hs (z2M fun n hn=>I.ok.has n (S.fr hn)) S.kind S.names' (thn (hi pins s σ H _ I h) fun v s1 h1=>thn h1 fun itv s2 h2=>?_)
  obtain ⟨it,fp,tn,J,H2,e,I2,T,st2,f2,hW⟩:=h2
  subst e
  refine z6h (Q:=Q) (RR:=fun acc C=>compPost (model X.prog X.w) X.A X.xe none (EP X pins σ Q) acc C) hc S P I2 T st2 f2 hW ?_
  intro D s3 H3 σ' H' s' E' I3 f3 J' q
  obtain ⟨m,hn,_⟩:=J'.loc
  exact ⟨m,hn,fun h' hb=>⟨.ref D,H',y3R I3 (z7F I3 f3 J') J'.free hb,rfl,q⟩⟩

/-- name=[..],stored ahead of the block's end -/
theorem y3v {i : Nat} {y : Str} {py spos : Pos} (hc : X.calm=true) (S : CompScope X.N X.env.scope.names N' k sc) (hN : X.N.Nodup) (hy : X.N[i]? = some y) (hyl : X.env.scope.names.lookup y=some .local) (hi : PI X tg iter wi) (P : PComp X N' sc tg ifs elt g tc te)
    (hsw : swapsWith (.ListComp elt [⟨tg,iter,ifs,0⟩] sc pos) (some (.Name y py)) spos.line X.env=pure true:=by rfl) (hs : ∀ x,foldedSetIterable iter X.env x=pure x:=by intro _; rfl) :
    PS X (.Assign [.Name y py] (.ListComp elt [⟨tg,iter,ifs,0⟩] sc pos) spos) (tAsg (y4a wi g tc te k) (z3u i)):=by
  intro pins s σ H D I h
  rw [exec_Assign_Name_used _ _ _ _ hsw]
  refine wpAny_bind (wpAny_standAt (wpAny_bind ?_))
  show wpAny _ X.A (do let _ ← comprehension (.ListComp elt [⟨tg,iter,ifs,0⟩] sc pos) sc X.env _ (newList []) false (eval iter X.env) (some (assign (.Name y py) X.env))) _ _ s
  refine wpAny_bind (wpAny_mono (wpAny_comprehension_free (use:=some (assign (.Name y py) X.env)) (Q:=fun _ s'=>SP X pins D .next s') rfl hs (z2M fun n hn=>I.ok.has n (S.fr hn)) S.kind S.names'
    (thn (hi pins s σ H _ I h) fun v s1 h1=>thn h1 fun itv s2 h2=>?_)) (fun _ s' hq=>wpAny_pure (wpAny_pure hq)) fun _ _ e=>e)
  obtain ⟨it,fp,tn,J,H2,e,I2,T,st2,f2,hW⟩:=h2
  subst e
  refine z6h (Q:=fun v H'=>D.nx (σ.set i (some v)) H') (RR:=fun acc C=>compPost (model X.prog X.w) X.A X.xe (some (assign (.Name y py) X.env)) (fun _ s'=>SP X pins D .next s') acc C) hc S P I2 T st2 f2 hW ?_
  intro a s3 H3 σ' H' s' E' I3 f3 J' q
  have J2:=z7F I3 f3 J'
  obtain ⟨m,hn,_⟩:=J'.loc
  show wpAny _ X.A (assign (.Name y py) X.env (.ref a)) _ _ _
  refine wpAny_assign_Name (z7O J2 hN hy (.inl hyl) (v:=.ref a) rfl (fun s4 I4 hsb=>?_) (.inr hyl))
  obtain ⟨b,hb,hb'⟩:=hsb
  have hne : b≠s3.heap.objs.size:=by
    rcases hb' with z | z
    · rw [z]; exact Nat.ne_of_lt I3.lt
    · obtain ⟨v,w'⟩:=I3.cell y b z
      exact Nat.ne_of_lt w'.lt
  refine ⟨m,hn.sameBut hb (Ne.symm hne),fun h' hb2=>⟨_,H',?_,q⟩⟩
  have I3' : Inv X pins (σ.set i (some (.ref a))) H3 s3∨True:=.inr trivial
  refine I4.turned (t':=s4.toks) (it:=s3.heap.objs.size) (fun b o hne e=>(hb2.2 b hne).trans e) J'.free (Nat.ne_of_gt I3.lt) (.inr I3.sz) (fun x c e=>?_) fun p hp=>?_
  · obtain ⟨v,q⟩:=I3.cell x c e
    exact Nat.ne_of_lt q.lt
  · exact Nat.ne_of_lt (Heap.lt_size (I3.pin p hp).1)
end
end L2

/-! ### E2: values as trees,without the heap -/
namespace L2
open PySem PySem.Spec PyProof.Rows

inductive D where
  | non | bl (b : Bool) | int (i : Int) | str (x : Str) | lst (xs : List D) | tup (xs : List D) | scr (ns : List Int) | dct (ks : List Key) (xs : List D) | exc (x : Str)
/-- of the program's own class at C isinstance can be asked,and it is none of Python's plain ones -/
def z4u (K : PySem.W.Frag) (C : Addr) : Bool:=PySem.W.findIn K (.ref C) "__getattribute__" == some (some (.builtin "BaseException.__getattribute__")) && PySem.W.findIn K (.ref C) "__getattr__" == some none && PySem.W.mroIn K C (.type "BaseException") == some true && (PySem.W.clsIn K C).isSome && PySem.W.findIn K (.ref C) "__class__" == some (some (.builtin "object.__class__")) &&
  PySem.W.specialIn K (.builtin "object.__class__") "__get__" == some (some (.builtin "getset_descriptor.__get__")) && PySem.W.takesIn K (.builtin "object.__class__") == some true && PySem.W.mroIn K C (.type "object") == some true &&
  ["bool", "int", "str", "list", "tuple", "dict"].all fun T=>PySem.W.kitOne K (.ref C) (.type T) == some false
/-- an exception of the class at C -/
def isX (a C : Addr) (h : Heap) : Prop:=∃ o,h.get? a=some o∧o.cls = .ref C∧o.dict=none∧PySem.W.notCls o=true

/-- a list that nobody changes: the script -/
def SqF (K : PySem.W.Frag) (H : Hp) (a : Addr) (xs : List V) : Prop:=
  (∃ o,H a=some (.frz o (.lst xs)))∨∃ (o : Obj) (its : Array Value) (n : Nat),K.lookup a=some o∧o.cls = .type "list" ∧ o.dict=none∧o.data = .seq its n∧its.size≤sizeLine∧Vals xs its.toList
theorem SqF.sq {K : PySem.W.Frag} {H : Hp} {a : Addr} {xs : List V} (h : SqF K H a xs) : SqL K H a xs:=h.elim (fun z=>.inl (.inr z)) .inr
/- v stands for d at H,through no list or dict of B -/
mutual
def Rep (K : PySem.W.Frag) (H : Hp) (B : Addr->Prop) : D->V->Prop
  | .non,v=>v = .non
  | .bl b,v=>v = .bl b
  | .int i,v=>v = .int i
  | .str x,v=>v = .str x
  | .lst ds,v=>∃ a xs,v = .ref a∧¬ B a∧H a=some (.lst xs)∧Reps K H B ds xs
  | .tup ds,v=>∃ a xs,v = .ref a∧SqT K H a xs∧Reps K H B ds xs
  | .scr ns,v=>∃ a,v = .ref a∧SqF K H a (ns.map V.int)
  | .dct ks ds,v=>∃ a kvs,v = .ref a∧¬ B a∧H a=some (.dK kvs)∧kvs.map (·.1)=ks∧Reps K H B ds (kvs.map (·.2))
  | .exc x,v=>∃ a C,v = .ref a∧¬ B a∧H a=some (.ext (isX a C))∧PySem.W.nsIn K mainGlobals x=some (some (.ref C))∧z4u K C=true
def Reps (K : PySem.W.Frag) (H : Hp) (B : Addr->Prop) : List D->List V->Prop
  | [],xs=>xs=[]
  | d :: ds,xs=>∃ x r,xs=x :: r∧Rep K H B d x∧Reps K H B ds r
end
/- v is the tree d at H,its lists and dicts those of A,each held there -/
mutual
def Tree (K : PySem.W.Frag) (H : Hp) : D->V->List Addr->Prop
  | .non,v,A=>v = .non∧A=[]
  | .bl b,v,A=>v = .bl b∧A=[]
  | .int i,v,A=>v = .int i∧A=[]
  | .str x,v,A=>v = .str x∧A=[]
  | .lst ds,v,A=>∃ a xs B,v = .ref a∧H a=some (.lst xs)∧Trees K H ds xs B∧A=a :: B
  | .tup ds,v,A=>∃ a xs,v = .ref a∧SqT K H a xs∧Trees K H ds xs A
  | .scr ns,v,A=>(∃ a,v = .ref a∧SqF K H a (ns.map V.int))∧A=[]
  | .dct ks ds,v,A=>∃ a kvs B,v = .ref a∧H a=some (.dK kvs)∧kvs.map (·.1)=ks∧Trees K H ds (kvs.map (·.2)) B∧A=a :: B
  | .exc x,v,A=>∃ a C,v = .ref a∧H a=some (.ext (isX a C))∧PySem.W.nsIn K mainGlobals x=some (some (.ref C))∧z4u K C=true∧A=[a]
def Trees (K : PySem.W.Frag) (H : Hp) : List D->List V->List Addr->Prop
  | [],xs,A=>xs=[]∧A=[]
  | d :: ds,xs,A=>∃ x r B C,xs=x :: r∧Tree K H d x B∧Trees K H ds r C∧A=B ++ C
end
/- nothing in it can change -/
mutual
def D.imm : D->Bool
  | .non=>true
  | .bl _=>true
  | .int _=>true
  | .str _=>true
  | .lst _=>false
  | .tup ds=>z1l ds
  | .scr _=>true
  | .dct _ _=>false
  | .exc _=>false
def z1l : List D->Bool
  | []=>true
  | d :: ds=>d.imm && z1l ds
end

theorem Same.tup {K : PySem.W.Frag} {H H' : Hp} {a : Addr} {xs : List V} (e : Same H H') (h : SqT K H a xs) : SqT K H' a xs:=by
  rcases h with (h | ⟨o,h⟩) | h
  · exact .inl (.inl (e _ _ h))
  · exact .inl (.inr ⟨o,e _ _ h⟩)
  · exact .inr h

section
variable {K : PySem.W.Frag} {H H' : Hp} {B B' : Addr->Prop}

structure KeepI (K : PySem.W.Frag) (H H' : Hp) : Prop where
  st : ∀ a xs,SqT K H a xs->SqT K H' a xs
  sf : ∀ a xs,SqF K H a xs->SqF K H' a xs
/-- what is kept: what is read of lists,dicts (outside of B) and tuples -/
structure Keep (K : PySem.W.Frag) (B : Addr->Prop) (H H' : Hp) : Prop where
  sl : ∀ a xs,¬ B a->H a=some (.lst xs)->H' a=some (.lst xs)
  st : ∀ a xs,SqT K H a xs->SqT K H' a xs
  sf : ∀ a xs,SqF K H a xs->SqF K H' a xs
  sd : ∀ a kvs,¬ B a->H a=some (.dK kvs)->H' a=some (.dK kvs)
  sx : ∀ a φ,¬ B a->H a=some (.ext φ)->H' a=some (.ext φ)

theorem Keep.i (k : Keep K B H H') : KeepI K H H':=⟨k.st,k.sf⟩
mutual
theorem Rep.keep (k : Keep K B H H') : ∀ (d : D) {v : V},Rep K H B d v->Rep K H' B d v
  | .non,_,h=>h
  | .bl _,_,h=>h
  | .int _,_,h=>h
  | .str _,_,h=>h
  | .lst ds,_,h=>by
    unfold Rep at h ⊢
    obtain ⟨a,xs,e,n,s,r⟩:=h
    exact ⟨a,xs,e,n,k.sl a xs n s,Reps.keep k ds r⟩
  | .tup ds,_,h=>by
    unfold Rep at h ⊢
    obtain ⟨a,xs,e,s,r⟩:=h
    exact ⟨a,xs,e,k.st a xs s,Reps.keep k ds r⟩
  | .scr ns,_,h=>by
    unfold Rep at h ⊢
    obtain ⟨a,e,s⟩:=h
    exact ⟨a,e,k.sf a _ s⟩
  | .dct ks ds,_,h=>by
    unfold Rep at h ⊢
    obtain ⟨a,kvs,e,n,s,q,r⟩:=h
    exact ⟨a,kvs,e,n,k.sd a kvs n s,q,Reps.keep k ds r⟩
  | .exc _,_,h=>by
    unfold Rep at h ⊢
    obtain ⟨a,C,e,n,s,r⟩:=h
    exact ⟨a,C,e,n,k.sx a _ n s,r⟩
theorem Reps.keep (k : Keep K B H H') : ∀ (ds : List D) {xs : List V},Reps K H B ds xs->Reps K H' B ds xs
  | [],_,h=>h
  | d :: ds,_,h=>by
    unfold Reps at h ⊢
    obtain ⟨x,r,e,h1,h2⟩:=h
    exact ⟨x,r,e,Rep.keep k d h1,Reps.keep k ds h2⟩
end
mutual
theorem Rep.anti (hb : ∀ a,B' a->B a) : ∀ (d : D) {v : V},Rep K H B d v->Rep K H B' d v
  | .non,_,h=>h
  | .bl _,_,h=>h
  | .int _,_,h=>h
  | .str _,_,h=>h
  | .lst ds,_,h=>by
    unfold Rep at h ⊢
    obtain ⟨a,xs,e,n,s,r⟩:=h
    exact ⟨a,xs,e,fun z=>n (hb a z),s,Reps.anti hb ds r⟩
  | .tup ds,_,h=>by
    unfold Rep at h ⊢
    obtain ⟨a,xs,e,s,r⟩:=h
    exact ⟨a,xs,e,s,Reps.anti hb ds r⟩
  | .scr _,_,h=>h
  | .dct ks ds,_,h=>by
    unfold Rep at h ⊢
    obtain ⟨a,kvs,e,n,s,q,r⟩:=h
    exact ⟨a,kvs,e,fun z=>n (hb a z),s,q,Reps.anti hb ds r⟩
  | .exc _,_,h=>by
    unfold Rep at h ⊢
    obtain ⟨a,C,e,n,r⟩:=h
    exact ⟨a,C,e,fun z=>n (hb a z),r⟩
theorem Reps.anti (hb : ∀ a,B' a->B a) : ∀ (ds : List D) {xs : List V},Reps K H B ds xs->Reps K H B' ds xs
  | [],_,h=>h
  | d :: ds,_,h=>by
    unfold Reps at h ⊢
    obtain ⟨x,r,e,h1,h2⟩:=h
    exact ⟨x,r,e,Rep.anti hb d h1,Reps.anti hb ds h2⟩
end
/- what cannot change stands for itself through whatever -/
mutual
theorem Rep.imm : ∀ (d : D) {v : V},d.imm=true->Rep K H B d v->Rep K H B' d v
  | .non,_,_,h=>h
  | .bl _,_,_,h=>h
  | .int _,_,_,h=>h
  | .str _,_,_,h=>h
  | .lst _,_,i,_=>by unfold D.imm at i; cases i
  | .dct _ _,_,i,_=>by unfold D.imm at i; cases i
  | .exc _,_,i,_=>by unfold D.imm at i; cases i
  | .tup ds,_,i,h=>by
    unfold D.imm at i
    unfold Rep at h ⊢
    obtain ⟨a,xs,e,s,r⟩:=h
    exact ⟨a,xs,e,s,Reps.imm ds i r⟩
  | .scr _,_,_,h=>h
theorem Reps.imm : ∀ (ds : List D) {xs : List V},z1l ds=true->Reps K H B ds xs->Reps K H B' ds xs
  | [],_,_,h=>h
  | d :: ds,_,i,h=>by
    unfold z1l at i
    rw [Bool.and_eq_true] at i
    unfold Reps at h ⊢
    obtain ⟨x,r,e,h1,h2⟩:=h
    exact ⟨x,r,e,Rep.imm d i.1 h1,Reps.imm ds i.2 h2⟩
end
/- and it is a tree without lists -/
mutual
theorem Rep.immTree : ∀ (d : D) {v : V},d.imm=true->Rep K H B d v->Tree K H d v []
  | .non,_,_,h=>⟨h,rfl⟩
  | .bl _,_,_,h=>⟨h,rfl⟩
  | .int _,_,_,h=>⟨h,rfl⟩
  | .str _,_,_,h=>⟨h,rfl⟩
  | .lst _,_,i,_=>by unfold D.imm at i; cases i
  | .dct _ _,_,i,_=>by unfold D.imm at i; cases i
  | .exc _,_,i,_=>by unfold D.imm at i; cases i
  | .tup ds,_,i,h=>by
    unfold D.imm at i
    unfold Rep at h
    unfold Tree
    obtain ⟨a,xs,e,s,r⟩:=h
    exact ⟨a,xs,e,s,Reps.immTree ds i r⟩
  | .scr _,_,_,h=>⟨h,rfl⟩
theorem Reps.immTree : ∀ (ds : List D) {xs : List V},z1l ds=true->Reps K H B ds xs->Trees K H ds xs []
  | [],_,_,h=>⟨h,rfl⟩
  | d :: ds,_,i,h=>by
    unfold z1l at i
    rw [Bool.and_eq_true] at i
    unfold Reps at h
    unfold Trees
    obtain ⟨x,r,e,h1,h2⟩:=h
    exact ⟨x,r,[],[],e,Rep.immTree d i.1 h1,Reps.immTree ds i.2 h2,rfl⟩
end
mutual
theorem Tree.rep : ∀ (d : D) {v : V} {A : List Addr},Tree K H d v A->(∀ a∈A,¬ B a)->Rep K H B d v
  | .non,_,_,h,_=>h.1
  | .bl _,_,_,h,_=>h.1
  | .int _,_,_,h,_=>h.1
  | .str _,_,_,h,_=>h.1
  | .lst ds,_,_,h,n=>by
    unfold Tree at h
    unfold Rep
    obtain ⟨a,xs,C,e,s,r,rfl⟩:=h
    exact ⟨a,xs,e,n a List.mem_cons_self,s,Trees.rep ds r fun b hb=>n b (List.mem_cons_of_mem _ hb)⟩
  | .tup ds,_,_,h,n=>by
    unfold Tree at h
    unfold Rep
    obtain ⟨a,xs,e,s,r⟩:=h
    exact ⟨a,xs,e,s,Trees.rep ds r n⟩
  | .scr _,_,_,h,_=>h.1
  | .dct ks ds,_,_,h,n=>by
    unfold Tree at h
    unfold Rep
    obtain ⟨a,kvs,C,e,s,q,r,rfl⟩:=h
    exact ⟨a,kvs,e,n a List.mem_cons_self,s,q,Trees.rep ds r fun b hb=>n b (List.mem_cons_of_mem _ hb)⟩
  | .exc _,_,_,h,n=>by
    unfold Tree at h
    unfold Rep
    obtain ⟨a,C,e,s,r1,r2,rfl⟩:=h
    exact ⟨a,C,e,n a List.mem_cons_self,s,r1,r2⟩
theorem Trees.rep : ∀ (ds : List D) {xs : List V} {A : List Addr},Trees K H ds xs A->(∀ a∈A,¬ B a)->Reps K H B ds xs
  | [],_,_,h,_=>h.1
  | d :: ds,_,_,h,n=>by
    unfold Trees at h
    unfold Reps
    obtain ⟨x,r,C,C',e,h1,h2,rfl⟩:=h
    exact ⟨x,r,e,Tree.rep d h1 fun b hb=>n b (List.mem_append_left _ hb),Trees.rep ds h2 fun b hb=>n b (List.mem_append_right _ hb)⟩
end
/- a tree stays where its own lists stay -/
mutual
theorem Tree.keep (kt : KeepI K H H') : ∀ (d : D) {v : V} {A : List Addr},Tree K H d v A->(∀ a∈A,∀ o,H a=some o->H' a=some o)->Tree K H' d v A
  | .non,_,_,h,_=>h
  | .bl _,_,_,h,_=>h
  | .int _,_,_,h,_=>h
  | .str _,_,_,h,_=>h
  | .lst ds,_,_,h,n=>by
    unfold Tree at h ⊢
    obtain ⟨a,xs,C,e,s,r,rfl⟩:=h
    exact ⟨a,xs,C,e,n a List.mem_cons_self _ s,Trees.keep kt ds r fun b hb=>n b (List.mem_cons_of_mem _ hb),rfl⟩
  | .tup ds,_,_,h,n=>by
    unfold Tree at h ⊢
    obtain ⟨a,xs,e,s,r⟩:=h
    exact ⟨a,xs,e,kt.st a xs s,Trees.keep kt ds r n⟩
  | .scr _,_,_,h,_=>by
    unfold Tree at h ⊢
    obtain ⟨⟨a,e,s⟩,q⟩:=h
    exact ⟨⟨a,e,kt.sf a _ s⟩,q⟩
  | .dct ks ds,_,_,h,n=>by
    unfold Tree at h ⊢
    obtain ⟨a,kvs,C,e,s,q,r,rfl⟩:=h
    exact ⟨a,kvs,C,e,n a List.mem_cons_self _ s,q,Trees.keep kt ds r fun b hb=>n b (List.mem_cons_of_mem _ hb),rfl⟩
  | .exc _,_,_,h,n=>by
    unfold Tree at h ⊢
    obtain ⟨a,C,e,s,r1,r2,rfl⟩:=h
    exact ⟨a,C,e,n a List.mem_cons_self _ s,r1,r2,rfl⟩
theorem Trees.keep (kt : KeepI K H H') : ∀ (ds : List D) {xs : List V} {A : List Addr},Trees K H ds xs A->(∀ a∈A,∀ o,H a=some o->H' a=some o)->Trees K H' ds xs A
  | [],_,_,h,_=>h
  | d :: ds,_,_,h,n=>by
    unfold Trees at h ⊢
    obtain ⟨x,r,C,C',e,h1,h2,rfl⟩:=h
    exact ⟨x,r,C,C',e,Tree.keep kt d h1 fun b hb=>n b (List.mem_append_left _ hb),Trees.keep kt ds h2 fun b hb=>n b (List.mem_append_right _ hb),rfl⟩
end
/- what a tree's addresses hold -/
mutual
theorem Tree.held : ∀ (d : D) {v : V} {A : List Addr},Tree K H d v A->∀ a∈A,∃ o,H a=some o∧Mut (some o)
  | .non,_,_,h,a,ha=>by rw [h.2] at ha; cases ha
  | .bl _,_,_,h,a,ha=>by rw [h.2] at ha; cases ha
  | .int _,_,_,h,a,ha=>by rw [h.2] at ha; cases ha
  | .str _,_,_,h,a,ha=>by rw [h.2] at ha; cases ha
  | .lst ds,_,_,h,b,hb=>by
    unfold Tree at h
    obtain ⟨a,xs,C,e,s,r,rfl⟩:=h
    rcases List.mem_cons.mp hb with z | z
    · subst z; exact ⟨_,s,trivial⟩
    · exact Trees.held ds r b z
  | .tup ds,_,_,h,b,hb=>by
    unfold Tree at h
    obtain ⟨a,xs,e,s,r⟩:=h
    exact Trees.held ds r b hb
  | .scr _,_,_,h,a,ha=>by rw [h.2] at ha; cases ha
  | .dct ks ds,_,_,h,b,hb=>by
    unfold Tree at h
    obtain ⟨a,kvs,C,e,s,q,r,rfl⟩:=h
    rcases List.mem_cons.mp hb with z | z
    · subst z; exact ⟨_,s,trivial⟩
    · exact Trees.held ds r b z
  | .exc _,_,_,h,b,hb=>by
    unfold Tree at h
    obtain ⟨a,C,e,s,r1,r2,rfl⟩:=h
    rw [List.mem_singleton.mp hb]
    exact ⟨_,s,trivial⟩
theorem Trees.held : ∀ (ds : List D) {xs : List V} {A : List Addr},Trees K H ds xs A->∀ a∈A,∃ o,H a=some o∧Mut (some o)
  | [],_,_,h,a,ha=>by rw [h.2] at ha; cases ha
  | d :: ds,_,_,h,b,hb=>by
    unfold Trees at h
    obtain ⟨x,r,C,C',e,h1,h2,rfl⟩:=h
    rcases List.mem_append.mp hb with z | z
    · exact Tree.held d h1 b z
    · exact Trees.held ds h2 b z
end

theorem Same.rd {H H' : Hp} {a : Addr} {u : HO} (e : Same H H') (h : Rd H a u) : Rd H' a u:=h.elim (fun z=>.inl (e _ _ z)) fun ⟨o,z⟩=>.inr ⟨o,e _ _ z⟩
theorem Same.sf (e : Same H H') {a : Addr} {xs : List V} (h : SqF K H a xs) : SqF K H' a xs:=h.elim (fun ⟨o,z⟩=>.inl ⟨o,e _ _ z⟩) .inr
theorem Keep.same (e : Same H H') : Keep K B H H':=⟨fun _ _ _ h=>e _ _ h,fun _ _ h=>e.tup h,fun _ _ h=>e.sf h,fun _ _ _ h=>e _ _ h,fun _ _ _ h=>e _ _ h⟩
theorem KeepI.same (e : Same H H') : KeepI K H H':=⟨fun _ _ h=>e.tup h,fun _ _ h=>e.sf h⟩
theorem Rep.mono {d : D} {v : V} (h : Rep K H B d v) (e : Same H H') : Rep K H' B d v:=Rep.keep (.same e) d h
theorem Reps.mono {ds : List D} {xs : List V} (h : Reps K H B ds xs) (e : Same H H') : Reps K H' B ds xs:=Reps.keep (.same e) ds h
theorem Tree.mono {d : D} {v : V} {A : List Addr} (h : Tree K H d v A) (e : Same H H') : Tree K H' d v A:=Tree.keep (.same e) d h fun a _ o z=>e a o z
theorem Trees.mono {ds : List D} {v : List V} {A : List Addr} (h : Trees K H ds v A) (e : Same H H') : Trees K H' ds v A:=Trees.keep (.same e) ds h fun a _ o z=>e a o z

/- what is not there yet is not gone through -/
mutual
theorem Rep.wide {C : Addr->Prop} (hc : ∀ a,C a->H a=none) : ∀ (d : D) {v : V},Rep K H B d v->Rep K H (fun a=>B a∨C a) d v
  | .non,_,h=>h
  | .bl _,_,h=>h
  | .int _,_,h=>h
  | .str _,_,h=>h
  | .lst ds,_,h=>by
    unfold Rep at h ⊢
    obtain ⟨a,xs,e,n,s,r⟩:=h
    refine ⟨a,xs,e,fun z=>z.elim n fun z=>?_,s,Reps.wide hc ds r⟩
    rw [hc a z] at s; cases s
  | .tup ds,_,h=>by
    unfold Rep at h ⊢
    obtain ⟨a,xs,e,s,r⟩:=h
    exact ⟨a,xs,e,s,Reps.wide hc ds r⟩
  | .scr _,_,h=>h
  | .dct ks ds,_,h=>by
    unfold Rep at h ⊢
    obtain ⟨a,kvs,e,n,s,q,r⟩:=h
    refine ⟨a,kvs,e,fun z=>z.elim n fun z=>?_,s,q,Reps.wide hc ds r⟩
    rw [hc a z] at s; cases s
  | .exc _,_,h=>by
    unfold Rep at h ⊢
    obtain ⟨a,C,e,n,s,r⟩:=h
    refine ⟨a,C,e,fun z=>z.elim n fun z=>?_,s,r⟩
    rw [hc a z] at s; cases s
theorem Reps.wide {C : Addr->Prop} (hc : ∀ a,C a->H a=none) : ∀ (ds : List D) {xs : List V},Reps K H B ds xs->Reps K H (fun a=>B a∨C a) ds xs
  | [],_,h=>h
  | d :: ds,_,h=>by
    unfold Reps at h ⊢
    obtain ⟨x,r,e,h1,h2⟩:=h
    exact ⟨x,r,e,Rep.wide hc d h1,Reps.wide hc ds h2⟩
end
/-- a list or dict of B is written -/
theorem Keep.upd {a : Addr} {o : HO} (hb : B a) (mu : Mut (H a)) : Keep K B H (upd H a o):=by
  refine ⟨fun b xs n h=>?_,fun b xs h=>?_,fun b xs h=>?_,fun b kvs n h=>?_,fun b φ n h=>?_⟩
  · have ne : b≠a:=fun z=>n (z ▸ hb)
    rw [z0s ne]; exact h
  · rcases h with (h | ⟨u,h⟩) | h
    · have ne : b≠a:=fun z=>by subst z; rw [h] at mu; exact mu
      exact .inl (.inl (by rw [z0s ne]; exact h))
    · have ne : b≠a:=fun z=>by subst z; rw [h] at mu; exact mu
      exact .inl (.inr ⟨u,by rw [z0s ne]; exact h⟩)
    · exact .inr h
  · rcases h with ⟨u,h⟩ | h
    · have ne : b≠a:=fun z=>by subst z; rw [h] at mu; exact mu
      exact .inl ⟨u,by rw [z0s ne]; exact h⟩
    · exact .inr h
  · have ne : b≠a:=fun z=>n (z ▸ hb)
    rw [z0s ne]; exact h
  · have ne : b≠a:=fun z=>n (z ▸ hb)
    rw [z0s ne]; exact h
theorem z0p {a : Addr} {o : HO} (h : H a=none) : Same H (upd H a o):=fun b u e=>by rw [z0s (z1f e h)]; exact e

theorem Reps.length : ∀ {ds : List D} {xs : List V},Reps K H B ds xs->ds.length=xs.length
  | [],_,h=>by unfold Reps at h; subst h; rfl
  | d :: ds,_,h=>by
    unfold Reps at h
    obtain ⟨x,r,rfl,_,h2⟩:=h
    simp [Reps.length h2]
theorem Reps.get : ∀ {ds : List D} {xs : List V} {i : Nat} {d : D},Reps K H B ds xs->ds[i]? = some d->∃ x,xs[i]? = some x∧Rep K H B d x
  | [],_,_,_,_,e=>by simp at e
  | d :: ds,_,i,d',h,e=>by
    unfold Reps at h
    obtain ⟨x,r,rfl,h1,h2⟩:=h
    cases i with
    | zero=>simp at e; subst e; exact ⟨x,rfl,h1⟩
    | succ i=>simpa using Reps.get (i:=i) h2 (by simpa using e)
theorem Reps.get' : ∀ {ds : List D} {xs : List V} {i : Nat} {x : V},Reps K H B ds xs->xs[i]? = some x->∃ d,ds[i]? = some d∧Rep K H B d x
  | [],_,_,_,h,e=>by unfold Reps at h; subst h; simp at e
  | d :: ds,_,i,x',h,e=>by
    unfold Reps at h
    obtain ⟨x,r,rfl,h1,h2⟩:=h
    cases i with
    | zero=>simp at e; subst e; exact ⟨d,rfl,h1⟩
    | succ i=>simpa using Reps.get' (i:=i) h2 (by simpa using e)
theorem Reps.append : ∀ {ds es : List D} {xs ys : List V},Reps K H B ds xs->Reps K H B es ys->Reps K H B (ds ++ es) (xs ++ ys)
  | [],_,_,_,h,h'=>by unfold Reps at h; subst h; exact h'
  | d :: ds,es,_,ys,h,h'=>by
    unfold Reps at h
    obtain ⟨x,r,rfl,h1,h2⟩:=h
    exact (show Reps K H B (d :: (ds ++ es)) (x :: (r ++ ys)) by unfold Reps; exact ⟨x,r ++ ys,rfl,h1,Reps.append h2 h'⟩)
theorem Reps.take : ∀ {ds : List D} {xs : List V} (n : Nat),Reps K H B ds xs->Reps K H B (ds.take n) (xs.take n)
  | _,_,0,_=>by rw [List.take_zero,List.take_zero]; unfold Reps; rfl
  | [],_,_ + 1,h=>by unfold Reps at h; subst h; unfold Reps; rfl
  | d :: ds,_,n + 1,h=>by
    unfold Reps at h
    obtain ⟨x,r,rfl,h1,h2⟩:=h
    rw [List.take_succ_cons,List.take_succ_cons]
    unfold Reps
    exact ⟨x,_,rfl,h1,Reps.take n h2⟩
theorem Reps.drop : ∀ {ds : List D} {xs : List V} (n : Nat),Reps K H B ds xs->Reps K H B (ds.drop n) (xs.drop n)
  | _,_,0,h=>h
  | [],_,_ + 1,h=>by unfold Reps at h; subst h; unfold Reps; rfl
  | d :: ds,_,n + 1,h=>by
    unfold Reps at h
    obtain ⟨x,r,rfl,h1,h2⟩:=h
    exact Reps.drop n h2
theorem Reps.one {d : D} {x : V} (h : Rep K H B d x) : Reps K H B [d] [x]:=by unfold Reps; exact ⟨x,[],rfl,h,by unfold Reps; rfl⟩
theorem Reps.nil : Reps K H B [] []:=by unfold Reps; rfl
theorem Reps.cons {d : D} {x : V} {ds : List D} {xs : List V} (h : Rep K H B d x) (h' : Reps K H B ds xs) : Reps K H B (d :: ds) (x :: xs):=by unfold Reps; exact ⟨x,xs,rfl,h,h'⟩
theorem Reps.snoc {d : D} {x : V} {ds : List D} {xs : List V} (h' : Reps K H B ds xs) (h : Rep K H B d x) : Reps K H B (ds ++ [d]) (xs ++ [x]):=h'.append (.one h)
theorem Trees.nil : Trees K H [] [] []:=⟨rfl,rfl⟩
theorem Trees.snoc : ∀ {ds : List D} {xs : List V} {A C : List Addr} {d : D} {x : V},Trees K H ds xs A->Tree K H d x C->Trees K H (ds ++ [d]) (xs ++ [x]) (A ++ C)
  | [],_,_,C,d,x,h,h'=>by
    obtain ⟨rfl,rfl⟩:=h
    exact (show Trees K H [d] [x] C by unfold Trees; exact ⟨x,[],C,[],rfl,h',⟨rfl,rfl⟩,(List.append_nil _).symm⟩)
  | e :: ds,_,_,C,d,x,h,h'=>by
    unfold Trees at h
    obtain ⟨y,r,A1,A2,rfl,h1,h2,rfl⟩:=h
    exact (show Trees K H (e :: (ds ++ [d])) (y :: (r ++ [x])) (A1 ++ A2 ++ C) by unfold Trees; exact ⟨y,_,A1,A2 ++ C,rfl,h1,Trees.snoc h2 h',List.append_assoc _ _ _⟩)
end
end L2

/-! ### E3: expressions by trees -/
namespace L2
open PySem PySem.Spec PyProof.Rows

abbrev DS:=List (Option D)
abbrev DE:=DS->Option D
structure RepS (K : PySem.W.Frag) (H : Hp) (B : Addr->Prop) (σ : St) (δ : DS) : Prop where
  len : δ.length=σ.length
  get : ∀ (i : Nat) (d : D),δ[i]? = some (some d)->∃ v,σ[i]? = some (some v)∧Rep K H B d v
def InB (B : Addr->Prop) (H : Hp) : Prop:=∀ a,B a->∃ o,H a=some o
def noB : Addr->Prop:=fun _=>False
theorem InB.mono {B : Addr->Prop} {H H' : Hp} (h : InB B H) (e : Same H H') : InB B H':=fun a b=>let ⟨o,q⟩:=h a b; ⟨o,e a o q⟩
theorem InB.no {H : Hp} : InB noB H:=fun _ b=>b.elim
theorem InB.fresh {B : Addr->Prop} {H : Hp} (h : InB B H) {a : Addr} (e : H a=none) : ¬ B a:=fun b=>by
  obtain ⟨o,q⟩:=h a b
  rw [e] at q; cases q
theorem RepS.mono {K : PySem.W.Frag} {H H' : Hp} {B : Addr->Prop} {σ : St} {δ : DS} (h : RepS K H B σ δ) (e : Same H H') : RepS K H' B σ δ:=
  ⟨h.len,fun i d q=>let ⟨v,a,r⟩:=h.get i d q; ⟨v,a,r.mono e⟩⟩
theorem RepS.anti {K : PySem.W.Frag} {H : Hp} {B B' : Addr->Prop} {σ : St} {δ : DS} (h : RepS K H B σ δ) (e : ∀ a,B' a->B a) : RepS K H B' σ δ:=
  ⟨h.len,fun i d q=>let ⟨v,a,r⟩:=h.get i d q; ⟨v,a,r.anti e⟩⟩

/-- an expression's tree: shared with what is there (D),a list just made (F),a tree all new (N); a test's bool (T); arguments (Ds) -/
def tD (K : PySem.W.Frag) (f : DE) : TE:=fun σ H Q=>∃ B δ d,InB B H∧RepS K H B σ δ∧f δ=some d∧∀ v H',Same H H'->Rep K H' B d v->Q v H'
def tF (K : PySem.W.Frag) (f : DS->Option (List D)) : TE:=fun σ H Q=>∃ B δ ds,InB B H∧RepS K H B σ δ∧f δ=some ds ∧
  ∀ a xs H',Same H H'->H a=none->H' a=some (.lst xs)->Reps K H' B ds xs->Q (.ref a) H'
def tN (K : PySem.W.Frag) (f : DE) : TE:=fun σ H Q=>∃ δ d,RepS K H noB σ δ∧f δ=some d∧∀ v H' A,Same H H'->Tree K H' d v A->A.Nodup->(∀ a∈A,H a=none)->Q v H'
def tT (K : PySem.W.Frag) (f : DS->Option Bool) : TT:=fun σ H Q=>∃ B δ b,InB B H∧RepS K H B σ δ∧f δ=some b∧∀ H',Same H H'->Q b H'
def tDs (K : PySem.W.Frag) (f : DS->Option (List D)) : TA:=fun σ H Q=>∃ B δ ds,InB B H∧RepS K H B σ δ∧f δ=some ds∧∀ vs H',Same H H'->Reps K H' B ds vs->Q vs H'
abbrev PD (X : Cx) (e : Expr) (f : DE) : Prop:=PE X e (tD X.K f)
abbrev PF (X : Cx) (e : Expr) (f : DS->Option (List D)) : Prop:=PE X e (tF X.K f)
abbrev PN (X : Cx) (e : Expr) (f : DE) : Prop:=PE X e (tN X.K f)
abbrev PTD (X : Cx) (e : Expr) (f : DS->Option Bool) : Prop:=PT X e (tT X.K f)
abbrev PWD (X : Cx) (e : Expr) (f : DS->Option Bool) : Prop:=PW X e (tT X.K f)

section
variable {X : Cx} {e a b c : Expr} {es : List Expr} {pos : Pos}
theorem PE.imp {t t' : TE} (h : PE X e t) (w : ∀ σ H Q,t' σ H Q->t σ H Q) : PE X e t':=fun pins s σ H Q I q=>h pins s σ H Q I (w σ H Q q)
theorem PT.imp {t t' : TT} (h : PT X e t) (w : ∀ σ H Q,t' σ H Q->t σ H Q) : PT X e t':=fun pins s σ H Q I q=>h pins s σ H Q I (w σ H Q q)
theorem PW.imp {t t' : TT} (h : PW X e t) (w : ∀ σ H Q,t' σ H Q->t σ H Q) : PW X e t':=fun wh pins s σ H Q I q=>h wh pins s σ H Q I (w σ H Q q)
theorem PA.imp {t t' : TA} (h : PA X es t) (w : ∀ σ H Q,t' σ H Q->t σ H Q) : PA X es t':=fun po pins s σ H Q I q=>h po pins s σ H Q I (w σ H Q q)

def mkL (f : DS->Option (List D)) : DE:=fun δ=>(f δ).map .lst
def z0D (f : DS->Option (List D)) : DE:=fun δ=>(f δ).bind fun ds=>if z1l ds=true then some (.lst ds) else none
def mkImm (f : DE) : DE:=fun δ=>(f δ).bind fun d=>if d.imm=true then some d else none
theorem iDF {K : PySem.W.Frag} {f : DS->Option (List D)} : ∀ σ H Q,tD K (mkL f) σ H Q->tF K f σ H Q:=fun σ H Q ⟨B,δ,d,hB,S,q,k⟩=>by
  unfold mkL at q
  cases r : f δ with
  | none=>rw [r] at q; cases q
  | some ds=>
    rw [r] at q
    cases q
    exact ⟨B,δ,ds,hB,S,r,fun a xs H' s hn ha hr=>k _ H' s (by unfold Rep; exact ⟨a,xs,rfl,hB.fresh hn,ha,hr⟩)⟩
theorem iDN {K : PySem.W.Frag} {f : DE} : ∀ σ H Q,tD K f σ H Q->tN K f σ H Q:=fun σ H Q ⟨B,δ,d,hB,S,q,k⟩=>
  ⟨δ,d,S.anti (fun _ z=>z.elim),q,fun v H' A s t nd fr=>k v H' s (t.rep d fun a ha=>hB.fresh (fr a ha))⟩
theorem iNF {K : PySem.W.Frag} {f : DS->Option (List D)} : ∀ σ H Q,tN K (z0D f) σ H Q->tF K f σ H Q:=fun σ H Q ⟨δ,d,S,q,k⟩=>by
  unfold z0D at q
  cases r : f δ with
  | none=>rw [r] at q; cases q
  | some ds=>
    rw [r] at q
    have q' : (if z1l ds=true then some (D.lst ds) else none)=some d:=q
    split at q'
    · rename_i hi
      cases q'
      refine ⟨noB,δ,ds,.no,S,r,fun a xs H' s hn ha hr=>k (.ref a) H' [a] s ?_ (List.nodup_cons.mpr ⟨(fun z=>nomatch z),List.nodup_nil⟩) (fun b hb=>by rw [List.mem_singleton.mp hb]; exact hn)⟩
      unfold Tree
      exact ⟨a,xs,[],rfl,ha,hr.immTree ds hi,rfl⟩
    · cases q'

theorem z4B {f : DS->Option (List D)} (h : PF X e f) : PD X e (mkL f):=h.imp iDF
theorem z4k {f : DE} (h : PN X e f) : PD X e f:=h.imp iDN
theorem z5O {f : DS->Option (List D)} (h : PF X e f) : PN X e (z0D f):=h.imp iNF

/-! ### names,constants -/
def z0d (i : Nat) : DE:=fun δ=>(δ[i]?).bind id
def dC (d : D) : DE:=fun _=>some d
theorem z0g (i : Nat) {x : Str} {p : Pos} (h : PE X (.Name x p) (z9Y i)) : PD X (.Name x p) (z0d i):=h.imp fun σ H Q ⟨B,δ,d,hB,S,q,k⟩=>by
  unfold z0d at q
  cases r : δ[i]? with
  | none=>rw [r] at q; cases q
  | some o=>
    rw [r] at q
    have q' : o=some d:=q
    subst q'
    obtain ⟨v,e,rv⟩:=S.get i d r
    exact ⟨v,e,k v H (.refl H) rv⟩
theorem pd_C {d : D} {v : V} (h : PE X e (tC v)) (r : ∀ K H B,Rep K H B d v) : PD X e (dC d):=h.imp fun σ H Q ⟨B,δ,d',hB,S,q,k⟩=>by
  cases q
  exact k v H (.refl H) (r _ _ _)
theorem z0e {i j p} : PD X (.Constant (.int i) j p) (dC (.int i)):=pd_C pe_int fun _ _ _=>rfl
theorem z4D {i j p} : PD X (.Constant (.bool i) j p) (dC (.bl i)):=pd_C pe_bl fun _ _ _=>rfl
theorem y7P {j p} : PD X (.Constant .none j p) (dC .non):=pd_C pe_non fun _ _ _=>rfl
theorem z1i {i j p} : PD X (.Constant (.str i) j p) (dC (.str i)):=pd_C pe_str fun _ _ _=>rfl

/-! ### two parts -/
def d2 (F : D->D->Option D) (f g : DE) : DE:=fun δ=>(f δ).bind fun x=>(g δ).bind fun y=>F x y
theorem z4Z {F : D->D->Option D} {f g : DE} {δ : DS} {d : D} (h : d2 F f g δ=some d) : ∃ x y,f δ=some x∧g δ=some y∧F x y=some d:=by
  unfold d2 at h
  cases hx : f δ with
  | none=>rw [hx] at h; cases h
  | some x=>
    rw [hx] at h
    cases hy : g δ with
    | none=>
      have h' : ((g δ).bind fun y=>F x y)=some d:=h
      rw [hy] at h'; cases h'
    | some y=>
      have h' : ((g δ).bind fun y=>F x y)=some d:=h
      rw [hy] at h'
      exact ⟨x,y,rfl,rfl,h'⟩
/-- what a rule by values says by trees -/
def Op2 (K : PySem.W.Frag) (r : R2) (F : D->D->Option D) : Prop:=∀ (H : Hp) (B : Addr->Prop) (dx dy d : D) (x y : V) (Q : VK),InB B H->Rep K H B dx x->Rep K H B dy y->F dx dy=some d->(∀ v H',Same H H'->Rep K H' B d v->Q v H')->r x y H Q
theorem z9T {r : R2} {F : D->D->Option D} {f g : DE} (ho : Op2 X.K r F) (σ : St) (H : Hp) (Q : VK) (h : tD X.K (d2 F f g) σ H Q) : tOp r (tD X.K f) (tD X.K g) σ H Q:=by
  obtain ⟨B,δ,d,hB,S,q,k⟩:=h
  obtain ⟨dx,dy,e1,e2,e3⟩:=z4Z q
  exact ⟨B,δ,dx,hB,S,e1,fun v H1 s1 r1=>⟨B,δ,dy,hB.mono s1,S.mono s1,e2,fun u H2 s2 r2=>
    ho H2 B dx dy d v u Q ((hB.mono s1).mono s2) (r1.mono s2) r2 e3 fun z H' s' rz=>k z H' ((s1.trans s2).trans s') rz⟩⟩
theorem y1g {op : Operator} {r : R2} {F : D->D->Option D} {f g : DE} (ho : OpR X (binaryOp op) r) (hD : Op2 X.K r F) (ha : PD X a f) (hb : PD X b g) : PD X (.BinOp a op b pos) (d2 F f g):=(pe_op ho ha hb).imp (z9T hD)
theorem y7J {op : CmpOp} {r : R2} {F : D->D->Option D} {f g : DE} (ho : OpR X (compareOp op) r) (hD : Op2 X.K r F) (ha : PD X a f) (hb : PD X b g) (hm : behindInMarks op b=false) : PD X (.Compare a [op] [b] pos) (d2 F f g):=(pe_cmpR ho ha hb hm).imp (z9T hD)
def z0P (f : DE) : DS->Option Bool:=fun δ=>match f δ with
  | some (.bl b)=>some b
  | _=>none
theorem y0P {f : DE} {δ : DS} {b : Bool} (h : z0P f δ=some b) : f δ=some (.bl b):=by
  unfold z0P at h
  split at h
  · rename_i b' e
    cases h; exact e
  · cases h
theorem test_of {t : TE} {f : DE} (h : ∀ σ H Q,tD X.K f σ H Q->t σ H Q) (σ : St) (H : Hp) (Q : Bool->Hp->Prop) (q : tT X.K (z0P f) σ H Q) : tTest t σ H Q:=by
  obtain ⟨B,δ,b,hB,S,q,k⟩:=q
  refine h σ H _ ⟨B,δ,.bl b,hB,S,y0P q,fun v H' s r=>?_⟩
  exact ⟨b,r,k H' s⟩
theorem z5z {op : CmpOp} {r : R2} {F : D->D->Option D} {f g : DE} (ho : OpR X (compareOp op) r) (hD : Op2 X.K r F) (ha : PD X a f) (hb : PD X b g) (hm : behindInMarks op b=false) : PTD X (.Compare a [op] [b] pos) (z0P (d2 F f g)):=(pt_cmpR ho ha hb hm).imp (test_of (z9T hD))
def z6a (F G : D->D->Option D) (f g h : DE) : DE:=fun δ=>(f δ).bind fun x=>(g δ).bind fun y=>match F x y with
  | some (.bl true)=>(h δ).bind fun z=>G y z
  | some (.bl false)=>some (.bl false)
  | _=>none
theorem y5G {r r' : R2} {F G : D->D->Option D} {f g h : DE} (ho : Op2 X.K r F) (ho' : Op2 X.K r' G) (σ : St) (H : Hp) (Q : VK) (q : tD X.K (z6a F G f g h) σ H Q) : y8v r r' (tD X.K f) (tD X.K g) (tD X.K h) σ H Q:=by
  obtain ⟨B,δ,d,hB,S,q,k⟩:=q
  unfold z6a at q
  cases e1 : f δ with
  | none=>rw [e1] at q; cases q
  | some x=>
    rw [e1] at q
    cases e2 : g δ with
    | none=>
      have q' : ((g δ).bind _)=some d:=q
      rw [e2] at q'; cases q'
    | some y=>
      have q' : ((g δ).bind _)=some d:=q
      rw [e2] at q'
      have q2 : (match F x y with | some (.bl true)=>(h δ).bind fun z=>G y z | some (.bl false)=>some (.bl false) | _=>none)=some d:=q'
      refine ⟨B,δ,x,hB,S,e1,fun v H1 s1 r1=>⟨B,δ,y,hB.mono s1,S.mono s1,e2,fun u H2 s2 r2=>?_⟩⟩
      split at q2
      · rename_i e3
        refine ho H2 B x y _ v u _ ((hB.mono s1).mono s2) (r1.mono s2) r2 e3 fun z H3 s3 r3=>⟨true,r3,?_⟩
        rw [if_pos rfl]
        cases e4 : h δ with
        | none=>rw [e4] at q2; cases q2
        | some w=>
          rw [e4] at q2
          have q4 : G y w=some d:=q2
          refine ⟨B,δ,w,((hB.mono s1).mono s2).mono s3,((S.mono s1).mono s2).mono s3,e4,fun t H4 s4 r4=>?_⟩
          exact ho' H4 B y w d u t Q ((((hB.mono s1).mono s2).mono s3).mono s4) ((r2.mono s3).mono s4) r4 q4 fun z' H' s' rz=>k z' H' ((((s1.trans s2).trans s3).trans s4).trans s') rz
      · rename_i e3
        cases q2
        refine ho H2 B x y _ v u _ ((hB.mono s1).mono s2) (r1.mono s2) r2 e3 fun z H3 s3 r3=>⟨false,r3,?_⟩
        rw [if_neg Bool.false_ne_true]
        exact k _ H3 ((s1.trans s2).trans s3) rfl
      · cases q2
theorem y6J {op op' : CmpOp} {r r' : R2} {F G : D->D->Option D} {f g h : DE} (ho : OpR X (compareOp op) r) (ho' : OpR X (compareOp op') r') (hF : Op2 X.K r F) (hG : Op2 X.K r' G) (ha : PD X a f) (hb : PD X b g) (hc : PD X c h)
    (hm : lastMarks [op,op'] [b,c]=false:=by with_unfolding_all rfl) : PD X (.Compare a [op,op'] [b,c] pos) (z6a F G f g h):=(y6D ho ho' ha hb hc hm).imp (y5G hF hG)

/-! ### ints -/
def iop (F : Int->Int->Option D) : D->D->Option D
  | .int i,.int j=>F i j
  | _,_=>none
theorem z6N {F : Int->Int->Option D} {x y d : D} (h : iop F x y=some d) : ∃ i j,x = .int i∧y = .int j∧F i j=some d:=by
  unfold iop at h
  split at h
  · exact ⟨_,_,rfl,rfl,h⟩
  · cases h
theorem z9J {K : PySem.W.Frag} {C : Int->Int->Prop} [∀ i j,Decidable (C i j)] {g : Int->Int->Int} : Op2 K (rI C fun i j=>.int (g i j)) (iop fun i j=>if C i j then some (.int (g i j)) else none):=by
  intro H B dx dy d x y Q hB hx hy q k
  obtain ⟨i,j,rfl,rfl,q2⟩:=z6N q
  by_cases hc : C i j
  · rw [if_pos hc] at q2
    cases q2
    exact ⟨i,j,hx,hy,hc,k _ H (.refl H) rfl⟩
  · rw [if_neg hc] at q2
    cases q2
theorem y3a {K : PySem.W.Frag} {g : Int->Int->Int} : Op2 K (rI0 fun i j=>.int (g i j)) (iop fun i j=>some (.int (g i j))):=by
  intro H B dx dy d x y Q hB hx hy q k
  obtain ⟨i,j,rfl,rfl,q2⟩:=z6N q
  cases q2
  exact ⟨i,j,hx,hy,k _ H (.refl H) rfl⟩
theorem z3X {K : PySem.W.Frag} {g : Int->Int->Bool} : Op2 K (rI0 fun i j=>.bl (g i j)) (iop fun i j=>some (.bl (g i j))):=by
  intro H B dx dy d x y Q hB hx hy q k
  obtain ⟨i,j,rfl,rfl,q2⟩:=z6N q
  cases q2
  exact ⟨i,j,hx,hy,k _ H (.refl H) rfl⟩
theorem Op2.or {K : PySem.W.Frag} {r r' : R2} {F G : D->D->Option D} (h : Op2 K r F) (h' : Op2 K r' G) : Op2 K (fun x y H Q=>r x y H Q∨r' x y H Q) (fun x y=>(F x y).orElse fun _=>G x y):=by
  intro H B dx dy d x y Q hB hx hy q k
  cases e : F dx dy with
  | some d'=>
    have q' : (F dx dy).orElse (fun _=>G dx dy)=some d:=q
    rw [e] at q'
    cases q'
    exact .inl (h H B dx dy _ x y Q hB hx hy e k)
  | none=>
    have q' : (F dx dy).orElse (fun _=>G dx dy)=some d:=q
    rw [e] at q'
    exact .inr (h' H B dx dy d x y Q hB hx hy q' k)

/-! ### one part -/
def d1 (F : D->Option D) (f : DE) : DE:=fun δ=>(f δ).bind F
theorem y2k {F : D->Option D} {f : DE} {δ : DS} {d : D} (h : d1 F f δ=some d) : ∃ x,f δ=some x∧F x=some d:=by
  unfold d1 at h
  cases hx : f δ with
  | none=>rw [hx] at h; cases h
  | some x=>rw [hx] at h; exact ⟨x,rfl,h⟩
def uNeg : D->Option D
  | .int i=>some (.int (-i))
  | _=>none
theorem pd_neg {f : DE} (h : PD X a f) : PD X (.UnaryOp .USub a pos) (d1 uNeg f):=(pe_un un_neg h).imp fun σ H Q ⟨B,δ,d,hB,S,q,k⟩=>by
  obtain ⟨x,e1,e2⟩:=y2k q
  refine ⟨B,δ,x,hB,S,e1,fun v H' s r=>?_⟩
  unfold uNeg at e2
  split at e2
  · cases e2
    exact ⟨_,r,k _ H' s rfl⟩
  · cases e2

/-! ### and,or,not,if -/
def z5A : D->Option Bool
  | .non=>some false
  | .bl b=>some b
  | .int i=>some (i != 0)
  | .str x=>if x.length≤sizeLine then some ((x.length : Int) != 0) else none
  | .lst ds=>some (!ds.isEmpty)
  | .tup ds=>some (!ds.isEmpty)
  | .scr ns=>some (!ns.isEmpty)
  | .dct ks _=>some (!ks.isEmpty)
  | .exc _=>none
def z1T (f : DE) : DS->Option Bool:=fun δ=>(f δ).bind z5A
theorem z9m {K : PySem.W.Frag} {H : Hp} {B : Addr->Prop} {ds : List D} {xs : List V} (h : Reps K H B ds xs) : (!ds.isEmpty) = !xs.isEmpty:=by
  have:=h.length
  cases ds <;> cases xs <;> simp_all
theorem y4T {K : PySem.W.Frag} {H : Hp} {B : Addr->Prop} {d : D} {v : V} {k : Bool} (h : Rep K H B d v) (e : z5A d=some k) : TruV K v H k:=by
  cases d with
  | non=>cases h; cases e; rfl
  | bl b=>cases h; cases e; rfl
  | int i=>cases h; cases e; rfl
  | str x=>
    cases h
    have e' : (if x.length≤sizeLine then some ((x.length : Int) != 0) else none)=some k:=e
    by_cases hl : x.length≤sizeLine
    · rw [if_pos hl] at e'
      cases e'
      exact ⟨hl,rfl⟩
    · rw [if_neg hl] at e'
      cases e'
  | lst ds=>
    unfold Rep at h
    obtain ⟨a,xs,rfl,_,s,r⟩:=h
    cases e
    exact .inl ⟨xs,SqL.of s,z9m r⟩
  | tup ds=>
    unfold Rep at h
    obtain ⟨a,xs,rfl,s,r⟩:=h
    cases e
    exact .inr (.inl ⟨xs,s,z9m r⟩)
  | scr ns=>
    unfold Rep at h
    obtain ⟨a,rfl,s⟩:=h
    cases e
    exact .inl ⟨_,s.sq,by cases ns <;> rfl⟩
  | dct ks ds=>
    unfold Rep at h
    obtain ⟨a,kvs,rfl,_,s,q,r⟩:=h
    cases e
    refine .inr (.inr ⟨kvs,s,?_⟩)
    rw [← q]
    cases kvs <;> rfl
  | exc _=>cases e
theorem z1b {f : DE} (h : PD X a f) (he : ∀ whole,isTrue a X.env whole=(do let v ← whole; standAt a.pos; holding [v] (truthy v)):=by intro _; rfl) : PTD X a (z1T f):=(y5C h he).imp fun σ H Q ⟨B,δ,k,hB,S,q,kk⟩=>by
  unfold z1T at q
  cases e : f δ with
  | none=>rw [e] at q; cases q
  | some d=>
    rw [e] at q
    exact ⟨B,δ,d,hB,S,e,fun v H' s r=>⟨k,y4T r q,kk H' s⟩⟩
def y1k (f g : DS->Option Bool) : DS->Option Bool:=fun δ=>(f δ).bind fun c=>if c=true then g δ else some false
def y1m (f g : DS->Option Bool) : DS->Option Bool:=fun δ=>(f δ).bind fun c=>if c=true then some true else g δ
def z3K (f : DS->Option Bool) : DS->Option Bool:=fun δ=>(f δ).map (!·)
theorem y6h {f : DS->Option Bool} (h : PTD X a f) : PWD X (.BoolOp .And [a] pos) f:=pw_and1 h
theorem z5i {f : DS->Option Bool} (h : PTD X a f) : PWD X (.BoolOp .Or [a] pos) f:=pw_or1 h
theorem pw_andD {rest : List Expr} {f g : DS->Option Bool} (ha : PTD X a f) (hb : PWD X (.BoolOp .And (b :: rest) pos) g) : PWD X (.BoolOp .And (a :: b :: rest) pos) (y1k f g):=(pw_and ha hb).imp fun σ H Q ⟨B,δ,k,hB,S,q,kk⟩=>by
  unfold y1k at q
  cases e : f δ with
  | none=>rw [e] at q; cases q
  | some c=>
    rw [e] at q
    refine ⟨B,δ,c,hB,S,e,fun H1 s1=>?_⟩
    have q' : (if c=true then g δ else some false)=some k:=q
    cases c with
    | true=>
      rw [if_pos rfl] at q'
      refine iteT ?_
      exact ⟨B,δ,k,hB.mono s1,S.mono s1,q',fun H2 s2=>kk H2 (s1.trans s2)⟩
    | false=>
      rw [if_neg Bool.false_ne_true] at q'
      refine iteF ?_
      cases q'
      exact kk H1 s1
theorem z5t {rest : List Expr} {f g : DS->Option Bool} (ha : PTD X a f) (hb : PWD X (.BoolOp .Or (b :: rest) pos) g) : PWD X (.BoolOp .Or (a :: b :: rest) pos) (y1m f g):=(pw_or ha hb).imp fun σ H Q ⟨B,δ,k,hB,S,q,kk⟩=>by
  unfold y1m at q
  cases e : f δ with
  | none=>rw [e] at q; cases q
  | some c=>
    rw [e] at q
    refine ⟨B,δ,c,hB,S,e,fun H1 s1=>?_⟩
    have q' : (if c=true then some true else g δ)=some k:=q
    cases c with
    | true=>
      rw [if_pos rfl] at q'
      refine iteT ?_
      cases q'
      exact kk H1 s1
    | false=>
      rw [if_neg Bool.false_ne_true] at q'
      refine iteF ?_
      exact ⟨B,δ,k,hB.mono s1,S.mono s1,q',fun H2 s2=>kk H2 (s1.trans s2)⟩
theorem z2T {f : DS->Option Bool} (h : PTD X a f) : PTD X (.UnaryOp .Not a pos) (z3K f):=(pt_not h).imp fun σ H Q ⟨B,δ,k,hB,S,q,kk⟩=>by
  unfold z3K at q
  cases e : f δ with
  | none=>rw [e] at q; cases q
  | some c=>
    rw [e] at q
    cases q
    exact ⟨B,δ,c,hB,S,e,kk⟩
def y7d (f g : DE) : DE:=fun δ=>match f δ with
  | some (.bl true)=>g δ
  | some (.bl false)=>some (.bl false)
  | _=>none
def dOr (f g : DE) : DE:=fun δ=>match f δ with
  | some (.bl true)=>some (.bl true)
  | some (.bl false)=>g δ
  | _=>none
def uNot : D->Option D
  | .bl b=>some (.bl (!b))
  | _=>none
theorem z9G {op} {f : DE} (h : PD X a f) : PD X (.BoolOp op [a] pos) f:=pe_one h
theorem z8l {rest : List Expr} {f g : DE} (ha : PD X a f) (hb : PD X (.BoolOp .And (b :: rest) pos) g) : PD X (.BoolOp .And (a :: b :: rest) pos) (y7d f g):=(pe_and ha hb).imp fun σ H Q ⟨B,δ,d,hB,S,q,k⟩=>by
  unfold y7d at q
  split at q
  · rename_i e
    refine ⟨B,δ,.bl true,hB,S,e,fun v H1 s1 r=>⟨true,r,?_⟩⟩
    rw [if_pos rfl]
    exact ⟨B,δ,d,hB.mono s1,S.mono s1,q,fun v2 H2 s2 r2=>k v2 H2 (s1.trans s2) r2⟩
  · rename_i e
    cases q
    refine ⟨B,δ,.bl false,hB,S,e,fun v H1 s1 r=>⟨false,r,?_⟩⟩
    rw [if_neg Bool.false_ne_true]
    exact k _ H1 s1 rfl
  · cases q
theorem y9d {f : DE} (h : PD X a f) : PD X (.UnaryOp .Not a pos) (d1 uNot f):=(pe_not h).imp fun σ H Q ⟨B,δ,d,hB,S,q,k⟩=>by
  obtain ⟨x,e1,e2⟩:=y2k q
  refine ⟨B,δ,x,hB,S,e1,fun v H' s r=>?_⟩
  unfold uNot at e2
  split at e2
  · cases e2
    exact ⟨_,r,k _ H' s rfl⟩
  · cases e2
def dIf (c : DS->Option Bool) (f g : DE) : DE:=fun δ=>(c δ).bind fun k=>if k=true then f δ else g δ

/-! ### arguments,displays -/
def z0j : List DE->DS->Option (List D)
  | [],_=>some []
  | f :: r,δ=>(f δ).bind fun x=>(z0j r δ).bind fun xs=>some (x :: xs)
theorem z4x {f : DE} {r : List DE} {δ : DS} {ds : List D} (h : z0j (f :: r) δ=some ds) : ∃ x xs,f δ=some x∧z0j r δ=some xs∧ds=x :: xs:=by
  unfold z0j at h
  cases hx : f δ with
  | none=>rw [hx] at h; cases h
  | some x=>
    rw [hx] at h
    have h' : ((z0j r δ).bind fun xs=>some (x :: xs))=some ds:=h
    cases hy : z0j r δ with
    | none=>rw [hy] at h'; cases h'
    | some xs=>
      rw [hy] at h'
      cases h'
      exact ⟨x,xs,rfl,rfl,rfl⟩
theorem z2l : ∀ {fl : List DE} {δ : DS} {ds : List D},z0j fl δ=some ds->ds.length=fl.length
  | [],_,_,h=>by cases h; rfl
  | f :: r,δ,ds,h=>by
    obtain ⟨x,xs,_,e,rfl⟩:=z4x h
    simp [z2l e]
abbrev PAD (X : Cx) (es : List Expr) (fl : List DE) : Prop:=PA X es (tDs X.K (z0j fl))
theorem z0c : PAD X [] []:=pa_nil.imp fun σ H Q ⟨B,δ,ds,hB,S,q,k⟩=>by
  cases q
  exact k [] H (.refl H) .nil
theorem z0a {f : DE} {fl : List DE} (ha : PD X e f) (hr : PAD X es fl) (hs : starEach (e :: es) X.env=(false,eval e X.env) :: starEach es X.env:=by rfl) : PAD X (e :: es) (f :: fl):=(z1o ha hr hs).imp fun σ H Q ⟨B,δ,ds,hB,S,q,k⟩=>by
  obtain ⟨x,xs,e1,e2,rfl⟩:=z4x q
  exact ⟨B,δ,x,hB,S,e1,fun v H1 s1 r1=>⟨B,δ,xs,hB.mono s1,S.mono s1,e2,fun vs H2 s2 r2=>k (v :: vs) H2 (s1.trans s2) (.cons (r1.mono s2) r2)⟩⟩
theorem z0X {fl : List DE} (h : PAD X es fl) (hl : fl.length≤1000:=by decide) : PF X (.List es pos) (z0j fl):=(y2S h).imp fun σ H Q ⟨B,δ,ds,hB,S,q,k⟩=>by
  refine ⟨B,δ,ds,hB,S,q,fun vs H1 s1 r1=>⟨?_,fun p hp=>?_⟩⟩
  · rw [← r1.length,z2l q]
    exact Nat.le_of_lt (z5q hl)
  · exact k p vs _ (s1.trans (z0p hp)) (s1.free hp) z0m (r1.mono (z0p hp))
def mkT (f : DS->Option (List D)) : DE:=fun δ=>(f δ).map .tup
theorem z2o {x1} {fl : List DE} (h : PAD X es fl) (hl : fl.length≤1000:=by decide) : PD X (.Tuple es x1 pos) (mkT (z0j fl)):=(pe_tup h).imp fun σ H Q ⟨B,δ,d,hB,S,q,k⟩=>by
  unfold mkT at q
  cases r : z0j fl δ with
  | none=>rw [r] at q; cases q
  | some ds=>
    rw [r] at q
    cases q
    refine ⟨B,δ,ds,hB,S,r,fun vs H1 s1 r1=>⟨?_,fun p hp=>?_⟩⟩
    · rw [← r1.length,z2l r]
      exact Nat.le_of_lt (z5q hl)
    · refine k _ _ (s1.trans (z0p hp)) ?_
      unfold Rep
      exact ⟨p,vs,rfl,SqT.of z0m,r1.mono (z0p hp)⟩

/-! ### xs[i],slices -/
def ixD : D->D->Option D
  | .lst ds,.int i=>atI ds i
  | .tup ds,.int i=>atI ds i
  | .scr ns,.int i=>(atI ns i).map .int
  | _,_=>none
theorem atI_map {α β : Type} (f : α->β) (xs : List α) (i : Int) : atI (xs.map f) i=(atI xs i).map f:=by
  unfold atI
  rw [List.length_map]
  cases ixN xs.length i with
  | none=>rfl
  | some j=>simp
theorem y0F {K : PySem.W.Frag} {H : Hp} {B : Addr->Prop} {ds : List D} {xs : List V} {i : Int} {d : D} (h : Reps K H B ds xs) (e : atI ds i=some d) : ∃ x,atI xs i=some x∧Rep K H B d x:=by
  unfold atI at e ⊢
  rw [← h.length]
  cases q : ixN ds.length i with
  | none=>rw [q] at e; cases e
  | some j=>
    rw [q] at e
    exact h.get e
theorem o2_ix {K : PySem.W.Frag} : Op2 K (rIx K) ixD:=by
  intro H B dx dy d x y Q hB hx hy q k
  unfold ixD at q
  split at q
  · unfold Rep at hx
    obtain ⟨a,xs,rfl,_,s,r⟩:=hx
    obtain ⟨v,e,rv⟩:=y0F r q
    exact .inl ⟨a,xs,_,v,rfl,hy,SqL.of s,e,k v H (.refl H) rv⟩
  · unfold Rep at hx
    obtain ⟨a,xs,rfl,s,r⟩:=hx
    obtain ⟨v,e,rv⟩:=y0F r q
    exact .inr (.inl ⟨a,xs,_,v,rfl,hy,s,e,k v H (.refl H) rv⟩)
  · rename_i ns i
    unfold Rep at hx
    obtain ⟨a,rfl,s⟩:=hx
    cases e : atI ns i with
    | none=>rw [e] at q; cases q
    | some n=>
      rw [e] at q
      cases q
      exact .inl ⟨a,_,_,.int n,rfl,hy,s.sq,by rw [atI_map,e]; rfl,k _ H (.refl H) rfl⟩
  · cases q
theorem z0K {f g : DE} (ha : PD X a f) (hb : PD X b g) (hs : z6x b:=by intro _ _; rfl) : PD X (.Subscript a b pos) (d2 ixD f g):=(pe_ix y7w ha hb hs).imp (z9T o2_ix)

/-! ### a call of the text's own def -/
/-- its promise: a tree of what it was handed (R),or a tree all new (N) -/
def spR (K : PySem.W.Frag) (F : List D->Option D) : Sp:=fun vs H Q _=>∃ B ds d,InB B H∧Reps K H B ds vs∧F ds=some d∧∀ v H',Same H H'->Rep K H' B d v->Q v H'
def spN (K : PySem.W.Frag) (F : List D->Option D) : Sp:=fun vs H Q _=>∃ ds d,Reps K H noB ds vs∧F ds=some d∧∀ v H' A,Same H H'->Tree K H' d v A->A.Nodup->(∀ a∈A,H a=none)->Q v H'
structure DefOk (P : Program) (w : World) (K : PySem.W.Frag) (mg : Str->Option Value) (base : Heap) (k : Nat) (x : Str) (sp : Sp) : Prop where
  ok : ∃ (f : Addr) (fd : FuncData) (ps : List Str),mg x=some (.ref f)∧PySem.W.keepIn K (.ref f)=true∧Binds K fd ps []∧FnOk P w K mg base CX0 k f fd ps sp
def z0k (F : List D->Option D) (fl : List DE) : DE:=fun δ=>(z0j fl δ).bind F
theorem z4o {F : List D->Option D} {fl : List DE} {δ : DS} {d : D} (h : z0k F fl δ=some d) : ∃ ds,z0j fl δ=some ds∧F ds=some d:=by
  unfold z0k at h
  cases q : z0j fl δ with
  | none=>rw [q] at h; cases h
  | some ds=>rw [q] at h; exact ⟨ds,rfl,h⟩
end
end L2

/-! ### E4: calls,walks and comprehensions by trees -/
namespace L2
open PySem PySem.Spec PyProof.Rows
section
variable {X : Cx} {e a b c : Expr} {es : List Expr} {pos p : Pos} {x : Str} {k : Nat} {tg iter elt : Expr}

/-! ### calls of the text's own defs -/
theorem y0c {sp : Sp} {t : TA} (G : DefOk X.prog X.w X.K X.mg X.base k x sp) (hr : Room k X.A) (hg : Gl X x) (ha : PA X (e :: es) t) (hdb : (x == ("__debug__" : Str))=false:=by decide)
    (he : starEach (e :: es) X.env=(false,eval e X.env) :: starEach es X.env:=by rfl) (hpl : (backTo pos (starEach es X.env)).any (·.1)=false:=by rfl) : PE X (.Call (.Name x p) (e :: es) [] pos) (tCall sp [] E0 t):=by
  obtain ⟨f,fd,ps,hm,hk,hb,ok⟩:=G.ok
  exact pe_call ok hr hg hm hk hb .nil pass0 ha hdb he hpl
theorem y6k {F : List D->Option D} {fl : List DE} (G : DefOk X.prog X.w X.K X.mg X.base k x (spR X.K F)) (hr : Room k X.A) (hg : Gl X x) (ha : PAD X (e :: es) fl) (hdb : (x == ("__debug__" : Str))=false:=by decide)
    (he : starEach (e :: es) X.env=(false,eval e X.env) :: starEach es X.env:=by rfl) (hpl : (backTo pos (starEach es X.env)).any (·.1)=false:=by rfl) : PD X (.Call (.Name x p) (e :: es) [] pos) (z0k F fl):=
  (y0c G hr hg ha hdb he hpl).imp fun σ H Q ⟨B,δ,d,hB,S,q,k⟩=>by
    obtain ⟨ds,e1,e2⟩:=z4o q
    refine ⟨B,δ,ds,hB,S,e1,fun vs H1 s1 r1=>?_⟩
    show spR X.K F (vs ++ []) H1 Q E0
    rw [List.append_nil]
    exact ⟨B,ds,d,hB.mono s1,r1,e2,fun v H' s' r=>k v H' (s1.trans s') r⟩
theorem z0l {F : List D->Option D} {fl : List DE} (G : DefOk X.prog X.w X.K X.mg X.base k x (spN X.K F)) (hr : Room k X.A) (hg : Gl X x) (ha : PAD X (e :: es) fl) (hdb : (x == ("__debug__" : Str))=false:=by decide)
    (he : starEach (e :: es) X.env=(false,eval e X.env) :: starEach es X.env:=by rfl) (hpl : (backTo pos (starEach es X.env)).any (·.1)=false:=by rfl) : PN X (.Call (.Name x p) (e :: es) [] pos) (z0k F fl):=
  (y0c G hr hg ha hdb he hpl).imp fun σ H Q ⟨δ,d,S,q,k⟩=>by
    obtain ⟨ds,e1,e2⟩:=z4o q
    refine ⟨noB,δ,ds,.no,S,e1,fun vs H1 s1 r1=>?_⟩
    show spN X.K F (vs ++ []) H1 Q E0
    rw [List.append_nil]
    exact ⟨ds,d,r1,e2,fun v H' A s' t nd fr=>k v H' A (s1.trans s') t nd fun a ha=>s1.free (fr a ha)⟩

/-! ### what is walked,by trees -/
structure ItD (K : PySem.W.Frag) (J : It) (H : Hp) (B : Addr->Prop) (ds : List D) : Prop where
  go : ∀ i H',Keep K B H H'->i < ds.length->J.go i H'
  stop : ∀ i H',Keep K B H H'->ds.length≤i->J.stop i H'
  yld : ∀ i H' x H2,Keep K B H H'->J.yld i H' x H2->Same H' H2∧∃ d,(i < ds.length->ds[i]? = some d)∧Rep K H2 B d x
/-- also where what is not there yet is not gone through -/
def ItW (K : PySem.W.Frag) (J : It) (H : Hp) (B : Addr->Prop) (ds : List D) : Prop:=∀ C : Addr->Prop,(∀ a,C a->H a=none)->ItD K J H (fun a=>B a∨C a) ds
def tI (K : PySem.W.Frag) (f : DS->Option (List D)) : TI:=fun σ H R=>∃ B δ ds,InB B H∧RepS K H B σ δ∧f δ=some ds∧∀ J H',Same H H'->ItW K J H' B ds->R J H'
abbrev PID (X : Cx) (tg iter : Expr) (f : DS->Option (List D)) : Prop:=PI X tg iter (tI X.K f)
theorem PI.imp {wi wi' : TI} (h : PI X tg iter wi) (w : ∀ σ H R,wi' σ H R->wi σ H R) : PI X tg iter wi':=fun pins s σ H R I q=>h pins s σ H R I (w σ H R q)
/-- a list or a tuple -/
def iSeq (K : PySem.W.Frag) (tl : TE) : TI:=fun σ H R=>tl σ H fun x H1=>∃ a,x = .ref a∧(((∃ xs,SqL K H1 a xs)∧R (Itl K a) H1)∨((∃ xs,SqT K H1 a xs)∧R (Itt K a) H1))
theorem pi_seq {l : Expr} {tl : TE} (hl : PE X l tl) : PI X tg l (iSeq X.K tl):=by
  intro pins s σ H R I h
  refine thn (hl pins s σ H _ I h) fun v s1 ⟨x,H1,I1,r1,q1⟩=>?_
  obtain ⟨a,e,q1⟩:=q1
  subst e
  cases r1
  have fp : ∀ b∈[s1.heap.objs.size],z8N X pins H1 b:=fun b hb=>by
    have e : b=s1.heap.objs.size:=by simpa using hb
    subst e
    exact I1.fpOk (Nat.le_refl _) (I1.hok.fresh (Nat.le_refl _))
  rcases q1 with ⟨⟨xs,hq⟩,q⟩ | ⟨⟨xs,hq⟩,q⟩
  · obtain ⟨its,rv,p,hz⟩:=I1.list hq
    refine wpAny_pyIter_list p.isList ?_
    exact ⟨s1.heap.objs.size,[s1.heap.objs.size],_,_,H1,rfl,I1.kept (t':=s1.toks) fun b o e=>Heap.get?_push_of_some _ e,y5d a _,⟨_,Heap.get?_push_size _ rfl,rfl,rfl⟩,fp,q⟩
  · obtain ⟨its,rv,p,hz⟩:=I1.tuple hq
    refine wpAny_pyIter_tuple (show s1.heap.IsTuple a its.toArray from p) ?_
    exact ⟨s1.heap.objs.size,[s1.heap.objs.size],_,_,H1,rfl,I1.kept (t':=s1.toks) fun b o e=>Heap.get?_push_of_some _ e,y0X a _,⟨_,Heap.get?_push_size _ rfl,rfl,rfl⟩,fp,q⟩
def y1r : D->Option (List D)
  | .lst ds=>some ds
  | .tup ds=>some ds
  | .scr ns=>some (ns.map .int)
  | _=>none
def z4G (f : DE) : DS->Option (List D):=fun δ=>(f δ).bind y1r
theorem y6j {K : PySem.W.Frag} {H : Hp} {B : Addr->Prop} {a : Addr} {xs : List V} {ds : List D} (n : ¬ B a) (h : H a=some (.lst xs)) (r : Reps K H B ds xs) : ItD K (Itl K a) H B ds:=by
  have hl:=r.length
  refine ⟨fun i H' kp hi=>?_,fun i H' kp hi=>?_,fun i H' x H2 kp y=>?_⟩
  · exact ⟨xs,xs[i],SqL.of (kp.sl a xs n h),by rw [List.getElem?_eq_getElem]⟩
  · exact ⟨xs,SqL.of (kp.sl a xs n h),by omega⟩
  · obtain ⟨e,y⟩:=y
    subst e
    have hx:=y xs (SqL.of (kp.sl a xs n h))
    obtain ⟨d,e,rd⟩:=(Reps.keep kp ds r).get' hx
    exact ⟨.refl _,d,fun _=>e,rd⟩
theorem itd_tup {K : PySem.W.Frag} {H : Hp} {B : Addr->Prop} {a : Addr} {xs : List V} {ds : List D} (h : SqT K H a xs) (r : Reps K H B ds xs) : ItD K (Itt K a) H B ds:=by
  have hl:=r.length
  refine ⟨fun i H' kp hi=>?_,fun i H' kp hi=>?_,fun i H' x H2 kp y=>?_⟩
  · exact ⟨xs,xs[i],kp.st a xs h,by rw [List.getElem?_eq_getElem]⟩
  · exact ⟨xs,kp.st a xs h,by omega⟩
  · obtain ⟨e,y⟩:=y
    subst e
    have hx:=y xs (kp.st a xs h)
    obtain ⟨d,e,rd⟩:=(Reps.keep kp ds r).get' hx
    exact ⟨.refl _,d,fun _=>e,rd⟩
theorem z2h {K : PySem.W.Frag} {H : Hp} {B : Addr->Prop} : ∀ ns : List Int,Reps K H B (ns.map D.int) (ns.map V.int)
  | []=>.nil
  | n :: ns=>.cons rfl (z2h ns)
theorem itd_scr {K : PySem.W.Frag} {H : Hp} {B : Addr->Prop} {a : Addr} {ns : List Int} (h : SqF K H a (ns.map V.int)) : ItD K (Itl K a) H B (ns.map D.int):=by
  have r : ∀ H',Reps K H' B (ns.map D.int) (ns.map V.int):=fun _=>z2h ns
  refine ⟨fun i H' kp hi=>?_,fun i H' kp hi=>?_,fun i H' x H2 kp y=>?_⟩
  · exact ⟨ns.map V.int,(ns.map V.int)[i]'(by simpa using hi),(kp.sf a _ h).sq,by rw [List.getElem?_eq_getElem]⟩
  · exact ⟨ns.map V.int,(kp.sf a _ h).sq,by simpa using hi⟩
  · obtain ⟨e,y⟩:=y
    subst e
    have hx:=y _ (kp.sf a _ h).sq
    obtain ⟨d,e,rd⟩:=(r _).get' hx
    exact ⟨.refl _,d,fun _=>e,rd⟩
theorem z0I {l : Expr} {f : DE} (h : PD X l f) : PID X tg l (z4G f):=(pi_seq h).imp fun σ H R ⟨B,δ,ds,hB,S,q,k⟩=>by
  unfold z4G at q
  cases e : f δ with
  | none=>rw [e] at q; cases q
  | some d=>
    rw [e] at q
    have q' : y1r d=some ds:=q
    refine ⟨B,δ,d,hB,S,e,fun v H1 s1 r1=>?_⟩
    unfold y1r at q'
    split at q'
    · cases q'
      unfold Rep at r1
      obtain ⟨a,xs,rfl,n,h,r⟩:=r1
      exact ⟨a,rfl,.inl ⟨⟨xs,SqL.of h⟩,k _ H1 s1 fun C hC=>y6j (fun z=>z.elim n fun z=>by rw [hC a z] at h; cases h) h (Reps.wide hC _ r)⟩⟩
    · cases q'
      unfold Rep at r1
      obtain ⟨a,xs,rfl,h,r⟩:=r1
      exact ⟨a,rfl,.inr ⟨⟨xs,h⟩,k _ H1 s1 fun C hC=>itd_tup h (Reps.wide hC _ r)⟩⟩
    · cases q'
      unfold Rep at r1
      obtain ⟨a,rfl,h⟩:=r1
      exact ⟨a,rfl,.inl ⟨⟨_,h.sq⟩,k _ H1 s1 fun C hC=>itd_scr h⟩⟩
    · cases q'
/-- lo,lo + 1,.. -/
def z3L (lo : Int) (n : Nat) : List D:=(List.range n).map fun i=>.int (lo + (i : Nat))
theorem y6m {lo : Int} {n i : Nat} (h : i < n) : (z3L lo n)[i]? = some (.int (lo + i)):=by
  unfold z3L
  rw [List.getElem?_map,List.getElem?_range h]
  rfl
theorem z3G (lo : Int) (n : Nat) : (z3L lo n).length=n:=by unfold z3L; rw [List.length_map,List.length_range]
theorem y5b {K : PySem.W.Frag} {H : Hp} {B : Addr->Prop} {lo : Int} {n : Nat} : ItD K (Itr lo n) H B (z3L lo n):=by
  refine ⟨fun i H' _ hi=>?_,fun i H' _ hi=>?_,fun i H' x H2 _ y=>?_⟩
  · rw [z3G] at hi; exact hi
  · rw [z3G] at hi; exact hi
  · obtain ⟨e,y⟩:=y
    subst e y
    exact ⟨.refl _,.int (lo + i),fun h=>y6m (by rwa [z3G] at h),rfl⟩
def z5N (f : DE) : DS->Option (List D):=fun δ=>match f δ with
  | some (.int j)=>if -(2 ^ 62)≤j∧j < 2 ^ 62 then some (z3L 0 j.toNat) else none
  | _=>none
def y6g (f g : DE) : DS->Option (List D):=fun δ=>match f δ,g δ with
  | some (.int i),some (.int j)=>if -(2 ^ 62)≤i∧i < 2 ^ 62∧-(2 ^ 62)≤j∧j < 2 ^ 62 then some (z3L i (j - i).toNat) else none
  | _,_=>none
theorem z8Z {f : DE} (hg : Gl X "range") (hm : X.mg "range" = none) (ha : PD X a f) (hs : starEach [a] X.env=[(false,eval a X.env)]:=by rfl) : PID X tg (.Call (.Name "range" p) [a] [] pos) (z5N f):=
  (y2Q hg hm (z0a ha z0c hs) hs).imp fun σ H R ⟨B,δ,ds,hB,S,q,k⟩=>by
    unfold z5N at q
    split at q
    · rename_i j e
      split at q
      · rename_i hj
        cases q
        have ea : z0j [f] δ=some [.int j]:=by unfold z0j; rw [e]; rfl
        refine ⟨B,δ,[.int j],hB,S,ea,fun vs H1 s1 r1=>?_⟩
        unfold Reps at r1
        obtain ⟨x,r,rfl,rx,rr⟩:=r1
        unfold Reps at rr
        subst rr
        exact ⟨j,by rw [show x=V.int j from rx],hj.1,hj.2,k _ H1 s1 fun C _=>y5b⟩
      · cases q
    · cases q
theorem pi_rng2 {f g : DE} (hg : Gl X "range") (hm : X.mg "range" = none) (ha : PD X a f) (hb : PD X b g) (hs : starEach [a,b] X.env=[(false,eval a X.env),(false,eval b X.env)]:=by rfl) (hs2 : starEach [b] X.env=[(false,eval b X.env)]:=by rfl) :
    PID X tg (.Call (.Name "range" p) [a,b] [] pos) (y6g f g):=
  (y4R hg hm (z0a ha (z0a hb z0c hs2) (by rw [hs,hs2])) hs hs2).imp fun σ H R ⟨B,δ,ds,hB,S,q,k⟩=>by
    unfold y6g at q
    split at q
    · rename_i i j e e'
      split at q
      · rename_i hj
        cases q
        have ea : z0j [f,g] δ=some [.int i,.int j]:=by unfold z0j z0j; rw [e,e']; rfl
        refine ⟨B,δ,[.int i,.int j],hB,S,ea,fun vs H1 s1 r1=>?_⟩
        unfold Reps at r1
        obtain ⟨x,r,rfl,rx,rr⟩:=r1
        unfold Reps at rr
        obtain ⟨y,r',rfl,ry,rr⟩:=rr
        unfold Reps at rr
        subst rr
        exact ⟨i,j,by rw [show x=V.int i from rx,show y=V.int j from ry],hj,k _ H1 s1 fun C _=>y5b⟩
      · cases q
    · cases q

/-! ### [elt for x in iter if c] -/
def consO : Option D->List D->List D
  | some y,ys=>y :: ys
  | none,ys=>ys
def z2g (h : D->Option (Option D)) : List D->Option (List D)
  | []=>some []
  | x :: r=>(h x).bind fun o=>(z2g h r).bind fun ys=>some (consO o ys)
theorem z4j {h : D->Option (Option D)} {x : D} {r ds : List D} (e : z2g h (x :: r)=some ds) : ∃ o ys,h x=some o∧z2g h r=some ys∧ds=consO o ys:=by
  unfold z2g at e
  cases q : h x with
  | none=>rw [q] at e; cases e
  | some o=>
    rw [q] at e
    have e' : ((z2g h r).bind fun ys=>some (consO o ys))=some ds:=e
    cases q' : z2g h r with
    | none=>rw [q'] at e'; cases e'
    | some ys=>
      rw [q'] at e'
      exact ⟨o,ys,rfl,rfl,(Option.some.inj e').symm⟩
def z1X (fi : DS->Option (List D)) (fc : DS->Option Bool) (fe : DE) : DS->Option (List D):=fun δ=>(fi δ).bind fun xs=>if xs.length≤sizeLine then
  z2g (fun x=>(fc (δ ++ [some x])).bind fun k=>if k=true then (fe (δ ++ [some x])).map some else some none) xs else none
def z8y : DS->Option Bool:=fun _=>some true
theorem z1O {X : Cx} : y6w X [] (tT X.K z8y):=fun pins s σ H Q I ⟨B,δ,b,hB,S,q,k⟩=>y5K pins s σ H Q I (by cases q; exact k H (.refl H))
theorem z2D {X : Cx} {c : Expr} {f : DS->Option Bool} (h : PTD X c f) : y6w X [c] (tT X.K f):=y5P h

theorem RepS.snoc {K : PySem.W.Frag} {H : Hp} {B : Addr->Prop} {σ : St} {δ : DS} {d : D} {v : V} (S : RepS K H B σ δ) (r : Rep K H B d v) : RepS K H B (σ ++ [some v]) (δ ++ [some d]):=by
  refine ⟨by simp [S.len],fun i d' e=>?_⟩
  by_cases hi : i < δ.length
  · rw [List.getElem?_append_left hi] at e
    obtain ⟨w,e',r'⟩:=S.get i d' e
    exact ⟨w,by rw [List.getElem?_append_left (by rw [← S.len]; exact hi)]; exact e',r'⟩
  · by_cases hj : i=δ.length
    · subst hj
      rw [List.getElem?_append_right (Nat.le_refl _),Nat.sub_self] at e
      cases e
      refine ⟨v,?_,r⟩
      rw [S.len,List.getElem?_append_right (Nat.le_refl _),Nat.sub_self]
      rfl
    · rw [List.getElem?_eq_none (by simp; omega)] at e
      cases e
theorem RepS.keep {K : PySem.W.Frag} {H H' : Hp} {B : Addr->Prop} {σ : St} {δ : DS} (h : RepS K H B σ δ) (kp : Keep K B H H') : RepS K H' B σ δ:=
  ⟨h.len,fun i d q=>let ⟨v,a,r⟩:=h.get i d q; ⟨v,a,Rep.keep kp d r⟩⟩
theorem RepS.wide {K : PySem.W.Frag} {H : Hp} {B C : Addr->Prop} {σ : St} {δ : DS} (h : RepS K H B σ δ) (hc : ∀ a,C a->H a=none) : RepS K H (fun a=>B a∨C a) σ δ:=
  ⟨h.len,fun i d q=>let ⟨v,a,r⟩:=h.get i d q; ⟨v,a,Rep.wide hc d r⟩⟩
theorem Keep.trans {K : PySem.W.Frag} {B : Addr->Prop} {H H1 H2 : Hp} (a : Keep K B H H1) (b : Keep K B H1 H2) : Keep K B H H2:=
  ⟨fun x xs n h=>b.sl x xs n (a.sl x xs n h),fun x xs h=>b.st x xs (a.st x xs h),fun x xs h=>b.sf x xs (a.sf x xs h),fun x xs n h=>b.sd x xs n (a.sd x xs n h),fun x xs n h=>b.sx x xs n (a.sx x xs n h)⟩
theorem Keep.anti {K : PySem.W.Frag} {B B' : Addr->Prop} {H H1 : Hp} (a : Keep K B H H1) (h : ∀ x,B x->B' x) : Keep K B' H H1:=
  ⟨fun x xs n q=>a.sl x xs (fun z=>n (h x z)) q,a.st,a.sf,fun x xs n q=>a.sd x xs (fun z=>n (h x z)) q,fun x xs n q=>a.sx x xs (fun z=>n (h x z)) q⟩
theorem z7f {w v : Option V} : ∀ {σ : St},(σ ++ [w]).set σ.length v=σ ++ [v]
  | []=>rfl
  | x :: r=>congrArg (x :: ·) (z7f (σ:=r))

variable {N' : List Str} {sc : Scope} {ifs : List Expr} {n : Nat} {px : Pos} {fi : DS->Option (List D)} {fc : DS->Option Bool} {fe : DE}

theorem z9P {σ : St} {H : Hp} {Q : VK} (hσ : σ.length=n) (hq : tF X.K (z1X fi fc fe) σ H Q) : y4a (tI X.K fi) (z3u n) (tT X.K fc) (tD X.K fe) 1 σ H Q:=by
  obtain ⟨B,δ,ds,hB,Sδ,q,k⟩:=hq
  unfold z1X at q
  cases e1 : fi δ with
  | none=>rw [e1] at q; cases q
  | some xs=>
  rw [e1] at q
  have q1 : (if xs.length≤sizeLine then z2g (fun x=>(fc (δ ++ [some x])).bind fun k=>if k=true then (fe (δ ++ [some x])).map some else some none) xs else none)=some ds:=q
  split at q1
  case isFalse=>cases q1
  case isTrue hsz=>
  refine ⟨B,δ,xs,hB,Sδ,e1,fun J H1 s1 itw=>fun Da hD=>?_⟩
  have hD0 : H Da=none:=s1.free hD
  have it:=itw (fun a=>a=Da) fun a ha=>by rw [ha]; exact hD
  have Sw : RepS X.K H1 (fun a=>B a∨a=Da) σ δ:=(Sδ.mono s1).wide fun a ha=>by rw [ha]; exact hD
  -- within the block the new list is not gone through
  refine ⟨fun i m σ' H'=>m=xs.length - i∧i≤xs.length∧(∃ w,σ'=σ ++ [w])∧Same H1 H'∧∃ ys dn rs,H' Da=some (.lst ys)∧Reps X.K H' (fun a=>B a∨a=Da) dn ys∧ds=dn ++ rs∧dn.length≤i ∧
    z2g (fun x=>(fc (δ ++ [some x])).bind fun k=>if k=true then (fe (δ ++ [some x])).map some else some none) (xs.drop i)=some rs,
    ⟨xs.length,by simp,Nat.zero_le _,⟨none,rfl⟩,z0p hD,[],[],ds,z0m,.nil,rfl,Nat.le_refl _,q1⟩,?_⟩
  rintro i m σ' H' ⟨rfl,hi',⟨w,rfl⟩,sm,ys,dn,rs,hys,rys,hds,hln,hrs⟩
  have kp : Keep X.K (fun a=>B a∨a=Da) H1 H':=.same sm
  by_cases hlt : i < xs.length
  · refine .inr ⟨it.go i H' kp hlt,fun σ'' H''=>(i + 1≤xs.length∧(∃ w,σ''=σ ++ [w])∧Same H1 H''∧∃ ys dn rs,H'' Da=some (.lst ys)∧Reps X.K H'' (fun a=>B a∨a=Da) dn ys∧ds=dn ++ rs∧dn.length≤i + 1 ∧
      z2g (fun x=>(fc (δ ++ [some x])).bind fun k=>if k=true then (fe (δ ++ [some x])).map some else some none) (xs.drop (i + 1))=some rs),fun σ'' H'' h=>⟨xs.length - (i + 1),by omega,rfl,h⟩,fun xv H2 hy=>?_⟩
    obtain ⟨s2,d,hd,rd⟩:=it.yld i H' xv H2 kp hy
    have hdi:=hd hlt
    have hx : xs.drop i=d :: xs.drop (i + 1):=by
      obtain ⟨hl,e⟩:=List.getElem?_eq_some_iff.mp hdi
      rw [List.drop_eq_getElem_cons hl,e]
    rw [hx] at hrs
    obtain ⟨o,rs',e2,e3,e4⟩:=z4j hrs
    show tT X.K fc ((σ ++ [w]).set n (some xv)) H2 _
    rw [← hσ,z7f]
    have hB1 : InB (fun a=>B a∨a=Da) H2:=fun a ha=>ha.elim (fun z=>(((hB.mono s1).mono sm).mono s2) a z) fun z=>⟨_,s2 _ _ (z ▸ hys)⟩
    have S2 : RepS X.K H2 (fun a=>B a∨a=Da) (σ ++ [some xv]) (δ ++ [some d]):=((Sw.mono sm).mono s2).snoc rd
    have hl2 : ys.length < sizeLine:=by
      have:=rys.length
      omega
    cases ec : fc (δ ++ [some d]) with
    | none=>rw [ec] at e2; cases e2
    | some kk=>
      rw [ec] at e2
      have e2' : (if kk=true then (fe (δ ++ [some d])).map some else some none)=some o:=e2
      refine ⟨_,δ ++ [some d],kk,hB1,S2,ec,fun H3 s3=>?_⟩
      cases kk with
      | false=>
        rw [if_neg Bool.false_ne_true] at e2'
        rw [if_neg Bool.false_ne_true]
        cases e2'
        exact ⟨hlt,⟨_,rfl⟩,(sm.trans s2).trans s3,ys,dn,rs',s3 _ _ (s2 _ _ hys),(rys.mono s2).mono s3,by rw [hds,e4]; rfl,Nat.le_succ_of_le hln,e3⟩
      | true=>
        rw [if_pos rfl] at e2'
        rw [if_pos rfl]
        cases ey : fe (δ ++ [some d]) with
        | none=>rw [ey] at e2'; cases e2'
        | some y=>
          rw [ey] at e2'
          cases e2'
          refine ⟨_,δ ++ [some d],y,hB1.mono s3,S2.mono s3,ey,fun yv H5 s5 r5=>⟨ys,s5 _ _ (s3 _ _ (s2 _ _ hys)),hl2,?_⟩⟩
          have hu : H5 Da=some (.lst ys):=s5 _ _ (s3 _ _ (s2 _ _ hys))
          refine ⟨hlt,⟨_,rfl⟩,fun b u hb=>?_,ys ++ [yv],dn ++ [y],rs',z0m,?_,by rw [hds,e4,List.append_assoc]; rfl,by rw [List.length_append]; simp; omega,e3⟩
          · rw [z0s (z1f hb hD)]
            exact s5 _ _ (s3 _ _ (s2 _ _ (sm _ _ hb)))
          · exact Reps.keep (.upd (.inr rfl) (by rw [hu]; exact trivial)) _ (((rys.mono s2).mono s3 |>.mono s5).snoc r5)
  · have e : i=xs.length:=by omega
    subst e
    refine .inl ⟨it.stop _ H' kp (Nat.le_refl _),?_⟩
    rw [List.drop_length] at hrs
    cases hrs
    rw [List.append_nil] at hds
    subst hds
    exact k Da ys H' (s1.trans sm) hD0 hys (rys.anti fun a z=>.inl z)
theorem z5w (hc : X.calm=true) (S : CompScope X.N X.env.scope.names N' 1 sc) (hn : n=X.N.length) (hi : PID X (.Name x px) iter fi)
    (hg : ∀ s H fp pins E,PG (z0L X N' sc s H fp pins E) (.Name x px) (z3u n)) (ht : ∀ s H fp pins E,y6w (z0L X N' sc s H fp pins E) ifs (tT X.K fc)) (he : ∀ s H fp pins E,PE (z0L X N' sc s H fp pins E) elt (tD X.K fe))
    (hs : ∀ x,foldedSetIterable iter X.env x=pure x:=by intro _; rfl) : PF X (.ListComp elt [⟨.Name x px,iter,ifs,0⟩] sc pos) (z1X fi fc fe):=by
  intro pins s σ H Q I hq
  exact y2T hc S hi ⟨hg,ht,he⟩ hs pins s σ H Q I (z9P (by rw [hn,I.len]) hq)
/-- name=[..] on one row -/
theorem y1s {i : Nat} {y : Str} {py spos : Pos} (hN : X.N.Nodup) (hy : X.N[i]? = some y) (hyl : X.env.scope.names.lookup y=some .local) (hc : X.calm=true) (S : CompScope X.N X.env.scope.names N' 1 sc) (hn : n=X.N.length) (hi : PID X (.Name x px) iter fi)
    (hg : ∀ s H fp pins E,PG (z0L X N' sc s H fp pins E) (.Name x px) (z3u n)) (ht : ∀ s H fp pins E,y6w (z0L X N' sc s H fp pins E) ifs (tT X.K fc)) (he : ∀ s H fp pins E,PE (z0L X N' sc s H fp pins E) elt (tD X.K fe))
    (hsw : swapsWith (.ListComp elt [⟨.Name x px,iter,ifs,0⟩] sc pos) (some (.Name y py)) spos.line X.env=pure true:=by rfl) (hs : ∀ x,foldedSetIterable iter X.env x=pure x:=by intro _; rfl) :
    PS X (.Assign [.Name y py] (.ListComp elt [⟨.Name x px,iter,ifs,0⟩] sc pos) spos) (tAsg (tF X.K (z1X fi fc fe)) (z3u i)):=by
  intro pins s σ H D I hq
  exact y3v hc S hN hy hyl hi ⟨hg,ht,he⟩ hsw hs pins s σ H D I (z9P (by rw [hn,I.len]) hq)
end
end L2

/-! ### E5: statements by trees; each slot shared,owned (its lists are the def's own,and no one else's),or lent by an owned one -/
namespace L2
open PySem PySem.Spec PyProof.Rows

inductive SD where
  | sh (d : D) | ow (d : D) | bo (r : Nat) (d : D)
abbrev SS:=List (Option SD)
def SD.val : SD->D
  | .sh d=>d
  | .ow d=>d
  | .bo _ d=>d
/-- what a look may see: all; the shared alone -/
def z0o (δ : SS) : DS:=δ.map (Option.map SD.val)
def shO : Option SD->Option D
  | some (.sh d)=>some d
  | _=>none
def shV (δ : SS) : DS:=δ.map shO

structure RS (K : PySem.W.Frag) (H0 : Hp) (B0 : Addr->Prop) (H : Hp) (σ : St) (δ : SS) (R : Nat->List Addr) : Prop where
  keep : Same H0 H
  inB : InB B0 H0
  len : δ.length=σ.length
  new : ∀ r a,a∈R r->H0 a=none
  held : ∀ r a,a∈R r->∃ o,H a=some o∧Mut (some o)
  disj : ∀ r s a,a∈R r->a∈R s->r=s
  sh : ∀ (i : Nat) (d : D),δ[i]? = some (some (.sh d))->∃ v,σ[i]? = some (some v)∧Rep K H (fun a=>B0 a∨∃ r,a∈R r) d v
  bo : ∀ (i r : Nat) (d : D),δ[i]? = some (some (.bo r d))->∃ v,σ[i]? = some (some v)∧Rep K H (fun a=>B0 a∨∃ s,s≠r∧a∈R s) d v
  ow : ∀ (i : Nat) (d : D),δ[i]? = some (some (.ow d))->∃ v,σ[i]? = some (some v)∧Tree K H d v (R i)∧(R i).Nodup
/-- what a step may do -/
structure Stp (R : Nat->List Addr) (H : Hp) (R' : Nat->List Addr) (H' : Hp) : Prop where
  keep : ∀ a o,H a=some o->(∀ r,a ∉ R r)->H' a=some o
  from' : ∀ r a,a∈R' r->(∃ s,a∈R s)∨H a=none
  there : ∀ a,H' a=none->H a=none
theorem Stp.refl (R : Nat->List Addr) (H : Hp) : Stp R H R H:=⟨fun _ _ h _=>h,fun r _ h=>.inl ⟨r,h⟩,fun _ h=>h⟩
theorem Stp.trans {R R1 R2 : Nat->List Addr} {H H1 H2 : Hp} (a : Stp R H R1 H1) (b : Stp R1 H1 R2 H2) : Stp R H R2 H2:=by
  refine ⟨fun x o h n=>b.keep x o (a.keep x o h n) fun r hr=>?_,fun r x h=>?_,fun x h=>a.there x (b.there x h)⟩
  · rcases a.from' r x hr with ⟨s,z⟩ | z
    · exact n s z
    · rw [h] at z; cases z
  · rcases b.from' r x h with ⟨s,z⟩ | z
    · exact a.from' s x z
    · exact .inr (a.there x z)
theorem Stp.same {R : Nat->List Addr} {H H' : Hp} (e : Same H H') : Stp R H R H':=⟨fun a o h _=>e a o h,fun r _ h=>.inl ⟨r,h⟩,fun _ h=>e.free h⟩

section
variable {K : PySem.W.Frag} {H0 H H' : Hp} {B0 : Addr->Prop} {σ : St} {δ : SS} {R : Nat->List Addr}
theorem y6z {i : Nat} {d : D} (h : (z0o δ)[i]? = some (some d)) : ∃ x,δ[i]? = some (some x)∧x.val=d:=by
  unfold z0o at h
  rw [List.getElem?_map] at h
  cases e : δ[i]? with
  | none=>rw [e] at h; cases h
  | some o=>
    rw [e] at h
    cases o with
    | none=>cases h
    | some x=>cases h; exact ⟨x,rfl,rfl⟩
theorem shV_get {i : Nat} {d : D} (h : (shV δ)[i]? = some (some d)) : δ[i]? = some (some (.sh d)):=by
  unfold shV at h
  rw [List.getElem?_map] at h
  cases e : δ[i]? with
  | none=>rw [e] at h; cases h
  | some o=>
    rw [e] at h
    have h' : shO o=some d:=Option.some.inj h
    unfold shO at h'
    split at h'
    · cases h'; rfl
    · cases h'
theorem RS.all (h : RS K H0 B0 H σ δ R) : RepS K H noB σ (z0o δ):=by
  refine ⟨by unfold z0o; rw [List.length_map]; exact h.len,fun i d e=>?_⟩
  obtain ⟨x,e',rfl⟩:=y6z e
  cases x with
  | sh d=>
    obtain ⟨v,e1,r⟩:=h.sh i d e'
    exact ⟨v,e1,r.anti fun _ z=>z.elim⟩
  | bo r d=>
    obtain ⟨v,e1,r⟩:=h.bo i r d e'
    exact ⟨v,e1,r.anti fun _ z=>z.elim⟩
  | ow d=>
    obtain ⟨v,e1,t,_⟩:=h.ow i d e'
    exact ⟨v,e1,t.rep d fun _ _ z=>z.elim⟩
theorem RS.shr (h : RS K H0 B0 H σ δ R) : RepS K H (fun a=>B0 a∨∃ r,a∈R r) σ (shV δ):=by
  refine ⟨by unfold shV; rw [List.length_map]; exact h.len,fun i d e=>h.sh i d (shV_get e)⟩
theorem RS.inAll (h : RS K H0 B0 H σ δ R) : InB (fun a=>B0 a∨∃ r,a∈R r) H:=fun a ha=>by
  rcases ha with z | ⟨r,z⟩
  · exact (h.inB.mono h.keep) a z
  · obtain ⟨o,e,_⟩:=h.held r a z
    exact ⟨o,e⟩
theorem RS.mono (h : RS K H0 B0 H σ δ R) (e : Same H H') : RS K H0 B0 H' σ δ R:=by
  refine ⟨h.keep.trans e,h.inB,h.len,h.new,fun r a z=>?_,h.disj,fun i d z=>?_,fun i r d z=>?_,fun i d z=>?_⟩
  · obtain ⟨o,e1,m⟩:=h.held r a z
    exact ⟨o,e a o e1,m⟩
  · obtain ⟨v,e1,r⟩:=h.sh i d z
    exact ⟨v,e1,r.mono e⟩
  · obtain ⟨v,e1,r⟩:=h.bo i r d z
    exact ⟨v,e1,r.mono e⟩
  · obtain ⟨v,e1,t,nd⟩:=h.ow i d z
    exact ⟨v,e1,t.mono e,nd⟩
/-- a slot is given something shared -/
theorem RS.setSh {i : Nat} {d : D} {v : V} (h : RS K H0 B0 H σ δ R) (r : Rep K H (fun a=>B0 a∨∃ r,a∈R r) d v) : RS K H0 B0 H (σ.set i (some v)) (δ.set i (some (.sh d))) R:=by
  have gs : ∀ {α : Type} {l : List (Option α)} {i j : Nat} {x : Option α} {y : α},(l.set i x)[j]? = some (some y)->(j=i∧x=some y)∨(j≠i∧l[j]? = some (some y)):=fun {α l i j x y} e=>by
    by_cases hj : j=i
    · subst hj
      rw [List.getElem?_set] at e
      simp only [if_true] at e
      split at e
      · exact .inl ⟨rfl,Option.some.inj e⟩
      · cases e
    · rw [List.getElem?_set_ne (Ne.symm hj)] at e
      exact .inr ⟨hj,e⟩
  have up : ∀ {j : Nat} {w : V},j≠i->σ[j]? = some (some w)->(σ.set i (some v))[j]? = some (some w):=fun hj e=>by rw [List.getElem?_set_ne (Ne.symm hj)]; exact e
  refine ⟨h.keep,h.inB,by simp [h.len],h.new,h.held,h.disj,fun j d' z=>?_,fun j r' d' z=>?_,fun j d' z=>?_⟩
  · rcases gs z with ⟨rfl,q⟩ | ⟨hj,q⟩
    · cases q
      have hl : j < σ.length:=by
        rw [← h.len]
        by_cases hl : j < δ.length
        · exact hl
        · rw [List.getElem?_eq_none (by simp; omega)] at z; cases z
      exact ⟨v,by rw [List.getElem?_set]; simp [hl],r⟩
    · obtain ⟨w,e1,r⟩:=h.sh j d' q
      exact ⟨w,up hj e1,r⟩
  · rcases gs z with ⟨rfl,q⟩ | ⟨hj,q⟩
    · cases q
    · obtain ⟨w,e1,r⟩:=h.bo j r' d' q
      exact ⟨w,up hj e1,r⟩
  · rcases gs z with ⟨rfl,q⟩ | ⟨hj,q⟩
    · cases q
    · obtain ⟨w,e1,t⟩:=h.ow j d' q
      exact ⟨w,up hj e1,t⟩
def y1q (R : Nat->List Addr) (i : Nat) (A : List Addr) : Nat->List Addr:=fun r=>if r=i then A else R r
theorem z1N {i : Nat} {A : List Addr} : y1q R i A i=A:=if_pos rfl
theorem z2G {i r : Nat} {A : List Addr} (h : r≠i) : y1q R i A r=R r:=if_neg h
theorem z2w {α : Type} {l : List (Option α)} {i j : Nat} {x : Option α} {y : α} (e : (l.set i x)[j]? = some (some y)) : (j=i∧x=some y∧i < l.length)∨(j≠i∧l[j]? = some (some y)):=by
  by_cases hj : j=i
  · subst hj
    rw [List.getElem?_set] at e
    simp only [if_true] at e
    split at e
    · rename_i hl
      exact .inl ⟨rfl,Option.some.inj e,hl⟩
    · cases e
  · rw [List.getElem?_set_ne (Ne.symm hj)] at e
    exact .inr ⟨hj,e⟩
/-- a slot is given a tree all new since Hold -/
theorem RS.setOw {Hold : Hp} {i : Nat} {d : D} {v : V} {A : List Addr} (h : RS K H0 B0 Hold σ δ R) (e : Same Hold H) (t : Tree K H d v A) (nd : A.Nodup) (fr : ∀ a∈A,Hold a=none) : RS K H0 B0 H (σ.set i (some v)) (δ.set i (some (.ow d))) (y1q R i A):=by
  have hm:=h.mono e
  have up : ∀ {j : Nat} {w : V},j≠i->σ[j]? = some (some w)->(σ.set i (some v))[j]? = some (some w):=fun hj e=>by rw [List.getElem?_set_ne (Ne.symm hj)]; exact e
  have hA : ∀ r a,a∈R r->a ∉ A:=fun r a z z'=>by
    obtain ⟨o,q,_⟩:=h.held r a z
    rw [fr a z'] at q; cases q
  have mem : ∀ r a,a∈y1q R i A r->(r=i∧a∈A)∨(r≠i∧a∈R r):=fun r a z=>by
    by_cases hr : r=i
    · subst hr; rw [z1N] at z; exact .inl ⟨rfl,z⟩
    · rw [z2G hr] at z; exact .inr ⟨hr,z⟩
  refine ⟨hm.keep,h.inB,by simp [h.len],fun r a z=>?_,fun r a z=>?_,fun r s a z z'=>?_,fun j d' z=>?_,fun j r' d' z=>?_,fun j d' z=>?_⟩
  · rcases mem r a z with ⟨_,z⟩ | ⟨_,z⟩
    · exact h.keep.free (fr a z)
    · exact h.new r a z
  · rcases mem r a z with ⟨_,z⟩ | ⟨_,z⟩
    · exact t.held d a z
    · exact hm.held r a z
  · rcases mem r a z with ⟨h1,z⟩ | ⟨h1,z⟩ <;> rcases mem s a z' with ⟨h2,z'⟩ | ⟨h2,z'⟩
    · rw [h1,h2]
    · exact absurd z (hA s a z')
    · exact absurd z' (hA r a z)
    · exact h.disj r s a z z'
  · rcases z2w z with ⟨rfl,q,_⟩ | ⟨hj,q⟩
    · cases q
    · obtain ⟨w,e1,r⟩:=h.sh j d' q
      refine ⟨w,up hj e1,Rep.anti ?_ d' ((Rep.wide (C:=fun a=>a∈A) fr d' r).mono e)⟩
      rintro a (z | ⟨r,z⟩)
      · exact .inl (.inl z)
      · rcases mem r a z with ⟨_,z⟩ | ⟨_,z⟩
        · exact .inr z
        · exact .inl (.inr ⟨r,z⟩)
  · rcases z2w z with ⟨rfl,q,_⟩ | ⟨hj,q⟩
    · cases q
    · obtain ⟨w,e1,r⟩:=h.bo j r' d' q
      refine ⟨w,up hj e1,Rep.anti ?_ d' ((Rep.wide (C:=fun a=>a∈A) fr d' r).mono e)⟩
      rintro a (z | ⟨s,hs,z⟩)
      · exact .inl (.inl z)
      · rcases mem s a z with ⟨_,z⟩ | ⟨_,z⟩
        · exact .inr z
        · exact .inl (.inr ⟨s,hs,z⟩)
  · rcases z2w z with ⟨rfl,q,hl⟩ | ⟨hj,q⟩
    · cases q
      rw [z1N]
      exact ⟨v,by rw [List.getElem?_set]; simp [← h.len,hl],t,nd⟩
    · obtain ⟨w,e1,t'⟩:=hm.ow j d' q
      rw [z2G hj]
      exact ⟨w,up hj e1,t'⟩
/-- an owned slot becomes shared -/
def y6i (i : Nat) (δ : SS) : SS:=match δ[i]? with
  | some (some (.ow d))=>δ.set i (some (.sh d))
  | _=>δ
theorem RS.frz (i : Nat) (h : RS K H0 B0 H σ δ R) : ∃ R',RS K H0 B0 H σ (y6i i δ) R'∧∀ r a,a∈R' r->a∈R r:=by
  unfold y6i
  split
  · rename_i d e
    obtain ⟨v,e1,t,nd⟩:=h.ow i d e
    refine ⟨y1q R i [],?_,fun r a z=>?_⟩
    · have mem : ∀ r a,a∈y1q R i [] r->r≠i∧a∈R r:=fun r a z=>by
        by_cases hr : r=i
        · subst hr; rw [z1N] at z; cases z
        · rw [z2G hr] at z; exact ⟨hr,z⟩
      refine ⟨h.keep,h.inB,by simp [h.len],fun r a z=>h.new r a (mem r a z).2,fun r a z=>h.held r a (mem r a z).2,fun r s a z z'=>h.disj r s a (mem r a z).2 (mem s a z').2,fun j d' z=>?_,fun j r' d' z=>?_,fun j d' z=>?_⟩
      · rcases z2w z with ⟨rfl,q,hl⟩ | ⟨hj,q⟩
        · cases q
          refine ⟨v,e1,t.rep d fun a ha=>?_⟩
          rintro (z | ⟨r,z⟩)
          · obtain ⟨o,q⟩:=h.inB a z
            rw [h.new j a ha] at q; cases q
          · exact (mem r a z).1 (h.disj r j a (mem r a z).2 ha)
        · obtain ⟨w,e2,r⟩:=h.sh j d' q
          exact ⟨w,e2,r.anti fun a z=>z.imp id fun ⟨r,z⟩=>⟨r,(mem r a z).2⟩⟩
      · rcases z2w z with ⟨rfl,q,_⟩ | ⟨hj,q⟩
        · cases q
        · obtain ⟨w,e2,r⟩:=h.bo j r' d' q
          exact ⟨w,e2,r.anti fun a z=>z.imp id fun ⟨s,hs,z⟩=>⟨s,hs,(mem s a z).2⟩⟩
      · rcases z2w z with ⟨rfl,q,_⟩ | ⟨hj,q⟩
        · cases q
        · rw [z2G hj]
          exact h.ow j d' q
    · by_cases hr : r=i
      · subst hr; rw [z1N] at z; cases z
      · rw [z2G hr] at z; exact z
  · exact ⟨R,h,fun _ _ z=>z⟩
end

/-! ### what comes of a statement -/
inductive Out where
  | nx (δ : SS) | bk (δ : SS) | ct (δ : SS) | rt (d : D) | ex (c : Nat) (δ : SS)
/-- what is wanted of an exception: its class,the slots and the heap where it was raised -/
abbrev XR:=Nat->St->Hp->Prop
abbrev noX : XR:=fun _ _ _=>False
def Ret (K : PySem.W.Frag) (H0 : Hp) (B0 : Addr->Prop) (fr : Bool) (H : Hp) (d : D) (v : V) : Prop:=
  Same H0 H∧(fr=true->∃ A,Tree K H d v A∧A.Nodup∧∀ a∈A,H0 a=none)∧(fr=false->Rep K H B0 d v)
def Aft (K : PySem.W.Frag) (H0 : Hp) (B0 : Addr->Prop) (fr : Bool) (RX : XR) (R : Nat->List Addr) (H : Hp) (D : Ends) : Out->Prop
  | .nx δ'=>∀ σ' H' R',RS K H0 B0 H' σ' δ' R'->Stp R H R' H'->D.nx σ' H'
  | .bk δ'=>∀ σ' H' R',RS K H0 B0 H' σ' δ' R'->Stp R H R' H'->D.bk σ' H'
  | .ct δ'=>∀ σ' H' R',RS K H0 B0 H' σ' δ' R'->Stp R H R' H'->D.ct σ' H'
  | .rt d=>∀ v H',Ret K H0 B0 fr H' d v->(∀ a,H' a=none->H a=none)->D.rt v H'
  | .ex c δ'=>∀ σ' H' R',RS K H0 B0 H' σ' δ' R'->Stp R H R' H'->RX c σ' H'
def tS (K : PySem.W.Frag) (H0 : Hp) (B0 : Addr->Prop) (fr : Bool) (RX : XR) (g : SS->Option Out) : TS:=fun D σ H=>∃ δ R o,RS K H0 B0 H σ δ R∧g δ=some o∧Aft K H0 B0 fr RX R H D o
theorem Aft.back {K : PySem.W.Frag} {H0 : Hp} {B0 : Addr->Prop} {fr : Bool} {RX : XR} {R R1 : Nat->List Addr} {H H1 : Hp} {D : Ends} {o : Out} (h : Aft K H0 B0 fr RX R H D o) (s : Stp R H R1 H1) : Aft K H0 B0 fr RX R1 H1 D o:=by
  cases o with
  | nx δ'=>exact fun σ' H' R' r t=>h σ' H' R' r (s.trans t)
  | bk δ'=>exact fun σ' H' R' r t=>h σ' H' R' r (s.trans t)
  | ct δ'=>exact fun σ' H' R' r t=>h σ' H' R' r (s.trans t)
  | rt d=>exact fun v H' r t=>h v H' r fun a z=>s.there a (t a z)
  | ex c δ'=>exact fun σ' H' R' r t=>h σ' H' R' r (s.trans t)
theorem PS.imp {X : Cx} {st : Stmt} {t t' : TS} (h : PS X st t) (w : ∀ D σ H,t' D σ H->t D σ H) : PS X st t':=fun pins s σ H D I q=>h pins s σ H D I (w D σ H q)
theorem PSs.imp {X : Cx} {st : List Stmt} {t t' : TS} (h : PSs X st t) (w : ∀ D σ H,t' D σ H->t D σ H) : PSs X st t':=fun pins s σ H D I q=>h pins s σ H D I (w D σ H q)

section
variable {X : Cx} {H0 : Hp} {B0 : Addr->Prop} {fr : Bool} {RX : XR} {st : Stmt} {sts : List Stmt} {e : Expr} {pos : Pos}
def z0W (g h : SS->Option Out) : SS->Option Out:=fun δ=>(g δ).bind fun o=>match o with
  | .nx δ'=>h δ'
  | o=>some o
def z1Y : SS->Option Out:=fun δ=>some (.nx δ)
theorem z1y : PSs X [] (tS X.K H0 B0 fr RX z1Y):=pss_nil.imp fun D σ H ⟨δ,R,o,rs,q,k⟩=>by
  cases q
  exact k σ H R rs (.refl R H)
theorem z0f {g h : SS->Option Out} (h1 : PS X st (tS X.K H0 B0 fr RX g)) (h2 : PSs X sts (tS X.K H0 B0 fr RX h)) : PSs X (st :: sts) (tS X.K H0 B0 fr RX (z0W g h)):=(y0J h1 h2).imp fun D σ H ⟨δ,R,o,rs,q,k⟩=>by
  unfold z0W at q
  cases e : g δ with
  | none=>rw [e] at q; cases q
  | some o1=>
    rw [e] at q
    refine ⟨δ,R,o1,rs,e,?_⟩
    cases o1 with
    | nx δ'=>
      have q' : h δ'=some o:=q
      exact fun σ' H' R' rs' s'=>⟨δ',R',o,rs',q',k.back s'⟩
    | bk δ'=>cases q; exact k
    | ct δ'=>cases q; exact k
    | rt d=>cases q; exact k
    | ex c δ'=>cases q; exact k
theorem z0h {g : SS->Option Out} (h1 : PS X st (tS X.K H0 B0 fr RX g)) : PSs X [st] (tS X.K H0 B0 fr RX g):=pss_one h1

/-! ### name=e -/
abbrev PAsg (X : Cx) (st : Stmt) (i : Nat) (te : TE) : Prop:=PS X st (tAsg te (z3u i))
theorem PAsg.imp {i : Nat} {t t' : TE} (h : PAsg X st i t) (w : ∀ σ H Q,t' σ H Q->t σ H Q) : PAsg X st i t':=PS.imp h fun D σ H q=>w σ H _ q
theorem z0M {i : Nat} {x : Str} {te : TE} {pos' : Pos} (hN : X.N.Nodup) (hi : X.N[i]? = some x) (hx : Loc X.env.scope x) (he : PE X e te) (hs : swapsWith e (some (.Name x pos')) pos.line X.env=pure false:=by rfl) (hf : X.fn x=true∨X.env.scope.names.lookup x=some .local:=by first | exact .inl rfl | exact .inr rfl | assumption) :
    PAsg X (.Assign [.Name x pos'] e pos) i te:=ps_set hN hi hx he hs hf
def y6Z (i : Nat) (f : DE) : SS->Option Out:=fun δ=>(f (shV δ)).map fun d=>.nx (δ.set i (some (.sh d)))
def z3J (i : Nat) (f : DE) : SS->Option Out:=fun δ=>(f (z0o δ)).bind fun d=>if d.imm=true then some (.nx (δ.set i (some (.sh d)))) else none
def z4l (i : Nat) (f : DE) : SS->Option Out:=fun δ=>(f (z0o δ)).map fun d=>.nx (δ.set i (some (.ow d)))
theorem z7D {i : Nat} {f : DE} (h : PAsg X st i (tD X.K f)) : PS X st (tS X.K H0 B0 fr RX (y6Z i f)):=PS.imp h fun D σ H ⟨δ,R,o,rs,q,k⟩=>by
  unfold y6Z at q
  cases e : f (shV δ) with
  | none=>rw [e] at q; cases q
  | some d=>
    rw [e] at q
    cases q
    exact ⟨_,shV δ,d,rs.inAll,rs.shr,e,fun v H' s r=>k _ H' R ((rs.mono s).setSh r) (.same s)⟩
theorem z1R {i : Nat} {f : DE} (h : PAsg X st i (tD X.K f)) : PS X st (tS X.K H0 B0 fr RX (z3J i f)):=PS.imp h fun D σ H ⟨δ,R,o,rs,q,k⟩=>by
  unfold z3J at q
  cases e : f (z0o δ) with
  | none=>rw [e] at q; cases q
  | some d=>
    rw [e] at q
    have q' : (if d.imm=true then some (Out.nx (δ.set i (some (.sh d)))) else none)=some o:=q
    split at q'
    · rename_i hi
      cases q'
      exact ⟨noB,z0o δ,d,.no,rs.all,e,fun v H' s r=>k _ H' R ((rs.mono s).setSh (r.imm d hi)) (.same s)⟩
    · cases q'
theorem z0Y {i : Nat} {f : DE} (h : PAsg X st i (tN X.K f)) : PS X st (tS X.K H0 B0 fr RX (z4l i f)):=PS.imp h fun D σ H ⟨δ,R,o,rs,q,k⟩=>by
  unfold z4l at q
  cases e : f (z0o δ) with
  | none=>rw [e] at q; cases q
  | some d=>
    rw [e] at q
    cases q
    refine ⟨z0o δ,d,rs.all,e,fun v H' A s t nd fr'=>k _ H' (y1q R i A) (rs.setOw s t nd fr') ⟨fun a o h _=>s a o h,fun r a z=>?_,fun a z=>s.free z⟩⟩
    by_cases hr : r=i
    · subst hr; rw [z1N] at z; exact .inr (fr' a z)
    · rw [z2G hr] at z; exact .inl ⟨r,z⟩

/-! ### return -/
def z3d (f : DE) : SS->Option Out:=fun δ=>(f (z0o δ)).bind fun d=>if d.imm=true then some (.rt d) else none
def y8i (f : DE) : SS->Option Out:=fun δ=>(f (z0o δ)).map .rt
def retS (f : DE) : SS->Option Out:=fun δ=>(f (shV δ)).map .rt
def y5y (i : Nat) : SS->Option Out:=fun δ=>match δ[i]? with
  | some (some (.ow d))=>some (.rt d)
  | _=>none
theorem z0G {f : DE} (h : PD X e f) : PS X (.Return (some e) pos) (tS X.K H0 B0 fr RX (z3d f)):=PS.imp (z7K h) fun D σ H ⟨δ,R,o,rs,q,k⟩=>by
  unfold z3d at q
  cases e : f (z0o δ) with
  | none=>rw [e] at q; cases q
  | some d=>
    rw [e] at q
    have q' : (if d.imm=true then some (Out.rt d) else none)=some o:=q
    split at q'
    · rename_i hi
      cases q'
      exact ⟨noB,z0o δ,d,.no,rs.all,e,fun v H' s r=>k v H' ⟨rs.keep.trans s,fun _=>⟨[],r.immTree d hi,List.nodup_nil,(fun a z=>nomatch z)⟩,fun _=>r.imm d hi⟩ fun a z=>s.free z⟩
    · cases q'
theorem z9L {f : DE} (h : PN X e f) : PS X (.Return (some e) pos) (tS X.K H0 B0 fr RX (y8i f)):=PS.imp (z7K h) fun D σ H ⟨δ,R,o,rs,q,k⟩=>by
  unfold y8i at q
  cases e : f (z0o δ) with
  | none=>rw [e] at q; cases q
  | some d=>
    rw [e] at q
    cases q
    exact ⟨z0o δ,d,rs.all,e,fun v H' A s t nd fr'=>k v H' ⟨rs.keep.trans s,fun _=>⟨A,t,nd,fun a z=>rs.keep.free (fr' a z)⟩,fun _=>t.rep d fun a z=>rs.inB.fresh (rs.keep.free (fr' a z))⟩ fun a z=>s.free z⟩
theorem y4r {f : DE} (h : PD X e f) : PS X (.Return (some e) pos) (tS X.K H0 B0 false RX (retS f)):=PS.imp (z7K h) fun D σ H ⟨δ,R,o,rs,q,k⟩=>by
  unfold retS at q
  cases e : f (shV δ) with
  | none=>rw [e] at q; cases q
  | some d=>
    rw [e] at q
    cases q
    exact ⟨_,shV δ,d,rs.inAll,rs.shr,e,fun v H' s r=>k v H' ⟨rs.keep.trans s,(fun z=>nomatch z),fun _=>r.anti fun a z=>.inl z⟩ fun a z=>s.free z⟩
theorem z7A {i : Nat} (h : PE X e (z9Y i)) : PS X (.Return (some e) pos) (tS X.K H0 B0 fr RX (y5y i)):=PS.imp (z7K h) fun D σ H ⟨δ,R,o,rs,q,k⟩=>by
  unfold y5y at q
  split at q
  · rename_i d e
    cases q
    obtain ⟨v,e1,t,nd⟩:=rs.ow i d e
    exact ⟨v,e1,k v H ⟨rs.keep,fun _=>⟨R i,t,nd,fun a z=>rs.new i a z⟩,fun _=>t.rep d fun a z=>rs.inB.fresh (rs.new i a z)⟩ fun a z=>z⟩
  · cases q

/-! ### if,break,continue,pass -/
def ifO (c : DS->Option Bool) (g h : SS->Option Out) : SS->Option Out:=fun δ=>(c (z0o δ)).bind fun b=>if b=true then g δ else h δ
theorem z5V {c : Expr} {a b : List Stmt} {f : DS->Option Bool} {g h : SS->Option Out} (hc : PTD X c f) (ha : PSs X a (tS X.K H0 B0 fr RX g)) (hb : PSs X b (tS X.K H0 B0 fr RX h)) : PS X (.If c a b pos) (tS X.K H0 B0 fr RX (ifO f g h)):=PS.imp (ps_if hc ha hb) fun D σ H ⟨δ,R,o,rs,q,k⟩=>by
  unfold ifO at q
  cases e : f (z0o δ) with
  | none=>rw [e] at q; cases q
  | some b=>
    rw [e] at q
    have q' : (if b=true then g δ else h δ)=some o:=q
    refine ⟨noB,z0o δ,b,.no,rs.all,e,fun H' s=>?_⟩
    cases b with
    | true=>
      rw [if_pos rfl] at q'
      refine iteT ?_
      exact ⟨δ,R,o,rs.mono s,q',k.back (.same s)⟩
    | false=>
      rw [if_neg Bool.false_ne_true] at q'
      refine iteF ?_
      exact ⟨δ,R,o,rs.mono s,q',k.back (.same s)⟩
def bkO : SS->Option Out:=fun δ=>some (.bk δ)
def ctO : SS->Option Out:=fun δ=>some (.ct δ)
/-- ahead of a statement an owned slot may become shared -/
def frzO (i : Nat) (g : SS->Option Out) : SS->Option Out:=fun δ=>g (y6i i δ)
theorem s_frz (i : Nat) {g : SS->Option Out} (h : PS X st (tS X.K H0 B0 fr RX g)) : PS X st (tS X.K H0 B0 fr RX (frzO i g)):=PS.imp h fun D σ H ⟨δ,R,o,rs,q,k⟩=>by
  obtain ⟨R',rs',hs⟩:=rs.frz i
  exact ⟨y6i i δ,R',o,rs',q,k.back ⟨fun a o h _=>h,fun r a z=>.inl ⟨r,hs r a z⟩,fun a z=>z⟩⟩

/-! ### for x in .. : over what is shared -/
def z3R (i : Nat) (b : SS->Option Out) : List D->SS->Option Out
  | [],δ=>some (.nx δ)
  | x :: r,δ=>(b (δ.set i (some (.sh x)))).bind fun o=>match o with
    | .nx δ'=>z3R i b r δ'
    | .ct δ'=>z3R i b r δ'
    | .bk δ'=>some (.nx δ')
    | .rt d=>some (.rt d)
    | .ex c δ'=>some (.ex c δ')
def z8w (i : Nat) (f : DS->Option (List D)) (b : SS->Option Out) : SS->Option Out:=fun δ=>(f (shV δ)).bind fun ds=>z3R i b ds δ
theorem Stp.keepB {K : PySem.W.Frag} {R R' : Nat->List Addr} {H H' : Hp} {B : Addr->Prop} (s : Stp R H R' H') (hR : ∀ r a,a∈R r->B a) (hm : ∀ r a,a∈R r->∃ o,H a=some o∧Mut (some o)) : Keep K B H H':=by
  have kp : ∀ a o,H a=some o->¬ Mut (some o)->H' a=some o:=fun a o e n=>s.keep a o e fun r z=>by
    obtain ⟨o',e',m⟩:=hm r a z
    rw [e] at e'; cases e'
    exact n m
  refine ⟨fun a xs n h=>s.keep a _ h fun r z=>n (hR r a z),fun a xs h=>?_,fun a xs h=>?_,fun a kvs n h=>s.keep a _ h fun r z=>n (hR r a z),fun a φ n h=>s.keep a _ h fun r z=>n (hR r a z)⟩
  · rcases h with (h | ⟨o,h⟩) | h
    · exact .inl (.inl (kp a _ h fun z=>z))
    · exact .inl (.inr ⟨o,kp a _ h fun z=>z⟩)
    · exact .inr h
  · rcases h with ⟨o,h⟩ | h
    · exact .inl ⟨o,kp a _ h fun z=>z⟩
    · exact .inr h
theorem z4F {i : Nat} {x : Str} {px : Pos} {iter : Expr} {body : List Stmt} {f : DS->Option (List D)} {g : SS->Option Out} (hp : PassesOwn (model X.prog X.w) X.A X.env X.xe) (hc : X.calm=true) (hi : PID X (.Name x px) iter f) (hg : PG X (.Name x px) (z3u i)) (hb : PSs X body (tS X.K H0 B0 fr RX g))
    (hs : ∀ x,foldedSetIterable iter X.env x=pure x:=by intro _; rfl) : PS X (.For (.Name x px) iter body [] pos) (tS X.K H0 B0 fr RX (z8w i f g)):=PS.imp (ps_for hp hc hi hg hb hs) fun D σ H ⟨δ,R,o,rs,q,k⟩=>by
  unfold z8w at q
  cases e : f (shV δ) with
  | none=>rw [e] at q; cases q
  | some ds=>
  rw [e] at q
  have q : z3R i g ds δ=some o:=q
  refine ⟨_,shV δ,ds,rs.inAll,rs.shr,e,fun J H1 s1 itw=>?_⟩
  have rs1:=rs.mono s1
  have it:=itw (fun a=>H1 a=none) fun a z=>z
  refine ⟨fun n m σ' H'=>m=ds.length - n∧n≤ds.length∧∃ δ' R',RS X.K H0 B0 H' σ' δ' R'∧Stp R H1 R' H'∧z3R i g (ds.drop n) δ'=some o,⟨ds.length,by simp,Nat.zero_le _,δ,R,rs1,.refl R H1,q⟩,?_⟩
  rintro n m σ' H' ⟨rfl,hn,δ',R',rs',s',q'⟩
  have kp : Keep X.K (fun a=>(B0 a∨∃ r,a∈R r)∨H1 a=none) H1 H':=s'.keepB (fun r a z=>.inl (.inr ⟨r,z⟩)) rs1.held
  by_cases hlt : n < ds.length
  · have hx : ds.drop n=ds[n] :: ds.drop (n + 1):=List.drop_eq_getElem_cons hlt
    rw [hx] at q'
    unfold z3R at q'
    cases eb : g (δ'.set i (some (.sh ds[n]))) with
    | none=>rw [eb] at q'; cases q'
    | some ob=>
      rw [eb] at q'
      refine .inr ⟨it.go n H' kp hlt,fun σ2 H2=>n + 1≤ds.length∧∃ δ2 R2,RS X.K H0 B0 H2 σ2 δ2 R2∧Stp R H1 R2 H2∧z3R i g (ds.drop (n + 1)) δ2=some o,fun σ2 H2 z=>⟨ds.length - (n + 1),by omega,rfl,z⟩,fun xv H2 hy=>?_⟩
      obtain ⟨s2,d,hd,rd⟩:=it.yld n H' xv H2 kp hy
      have hdi : d=ds[n]:=by
        have:=hd hlt
        rw [List.getElem?_eq_getElem hlt] at this
        exact (Option.some.inj this).symm
      subst hdi
      -- the item is shared
      have rd' : Rep X.K H2 (fun a=>B0 a∨∃ r,a∈R' r) ds[n] xv:=rd.anti fun a z=>by
        rcases z with z | ⟨r,z⟩
        · exact .inl (.inl z)
        · rcases s'.from' r a z with z | z
          · exact .inl (.inr z)
          · exact .inr z
      have rs2:=(rs'.mono s2).setSh (i:=i) rd'
      have st2 : Stp R H1 R' H2:=s'.trans (.same s2)
      refine ⟨_,R',ob,rs2,eb,?_⟩
      cases ob with
      | nx δ2=>
        have q2 : z3R i g (ds.drop (n + 1)) δ2=some o:=q'
        exact fun σ3 H3 R3 rs3 s3=>⟨hlt,δ2,R3,rs3,st2.trans s3,q2⟩
      | ct δ2=>
        have q2 : z3R i g (ds.drop (n + 1)) δ2=some o:=q'
        exact fun σ3 H3 R3 rs3 s3=>⟨hlt,δ2,R3,rs3,st2.trans s3,q2⟩
      | bk δ2=>
        cases q'
        exact fun σ3 H3 R3 rs3 s3=>k σ3 H3 R3 rs3 ((Stp.same s1).trans (st2.trans s3))
      | rt d=>
        cases q'
        exact k.back ((Stp.same s1).trans st2)
      | ex c δ2=>
        cases q'
        exact k.back ((Stp.same s1).trans st2)
  · have en : n=ds.length:=by omega
    subst en
    rw [List.drop_length] at q'
    cases q'
    exact .inl ⟨it.stop _ H' kp (Nat.le_refl _),k σ' H' R' rs' ((Stp.same s1).trans s')⟩
end

/-! ### a def's body -/
def z2L (np nl : Nat) (g : SS->Option Out) : List D->Option D:=fun ds=>if ds.length=np then (match g (ds.map (fun d=>some (.sh d)) ++ List.replicate nl none) with
  | some (.rt d)=>some d
  | some (.nx _)=>some .non
  | _=>none) else none
theorem z3q {np nl : Nat} {g : SS->Option Out} {ds : List D} {d : D} (h : z2L np nl g ds=some d) : ds.length=np:=by
  unfold z2L at h
  split at h
  · assumption
  · cases h
theorem z3M {K : PySem.W.Frag} {H : Hp} {B : Addr->Prop} {ds : List D} {vs : List V} {N : List Str} {nl : Nat} (hB : InB B H) (r : Reps K H B ds vs) (hN : N.length=ds.length + nl) :
    RS K H B H (z4K N vs) (ds.map (fun d=>some (.sh d)) ++ List.replicate nl none) (fun _=>[]):=by
  have hl:=r.length
  have get : ∀ {i : Nat} {x : SD},(ds.map (fun d=>some (SD.sh d)) ++ List.replicate nl none)[i]? = some (some x)->∃ d,ds[i]? = some d∧x = .sh d:=fun {i x} e=>by
    by_cases hi : i < ds.length
    · rw [List.getElem?_append_left (by simpa using hi),List.getElem?_map,List.getElem?_eq_getElem hi] at e
      cases e
      exact ⟨ds[i],List.getElem?_eq_getElem hi,rfl⟩
    · rw [List.getElem?_append_right (by simpa using hi),List.getElem?_replicate] at e
      split at e <;> cases e
  refine ⟨.refl H,hB,?_,(fun _ _ z=>nomatch z),(fun _ _ z=>nomatch z),(fun _ _ _ z=>nomatch z),fun i d e=>?_,fun i r d e=>?_,fun i d e=>?_⟩
  · unfold z4K
    simp
    omega
  · obtain ⟨d',e1,e2⟩:=get e
    cases e2
    obtain ⟨v,e3,rv⟩:=r.get e1
    refine ⟨v,?_,rv.anti fun a z=>z.elim id (fun ⟨_,z⟩=>nomatch z)⟩
    unfold z4K
    have hi : i < vs.length:=(List.getElem?_eq_some_iff.mp e3).1
    rw [List.getElem?_append_left (by simpa using hi),List.getElem?_map,e3]
    rfl
  · obtain ⟨d',_,e2⟩:=get e
    cases e2
  · obtain ⟨d',_,e2⟩:=get e
    cases e2
section
variable {P : Program} {w : World} {K : PySem.W.Frag} {mg : Str->Option Value} {base : Heap}
/-- a def whose trees are all new -/
theorem fnN {x qual : Str} {st : Stmt} {f : Addr} {fd : FuncData} {N ps : List Str} {k np nl : Nat} {g : SS->Option Out} (F : Fun K x qual st f fd) (S : FnScope N ps (z0b st)) (hnp : ps.length=np) (hN : N.length=np + nl)
    (hbody : ∀ (cdv : Value) (A : Around) (outer : List Env) (s : Shared) (H : Hp) (E : XK),Room k (A.deeper (envOfC qual (z0b st) s.heap.objs.size f cdv)) →
      PSs (z8q CX0 P w K mg base N qual (z0b st) f cdv A outer s H E).nox (z0n st) (tS K H noB true noX g)) : FnOk P w K mg base CX0 (k + 1) f fd ps (spN K (z2L np nl g)):=by
  refine F.ok S (fun vs H Q E h=>?_) fun cdv A outer s H vs Q E hr h=>?_
  · obtain ⟨ds,d,r,e,_⟩:=h
    rw [← r.length,z3q e,hnp]
  · obtain ⟨ds,d,r,e,kk⟩:=h
    refine ⟨_,hbody cdv A outer s H E hr,?_⟩
    have hl:=z3q e
    unfold z2L at e
    rw [if_pos hl] at e
    have rs:=z3M (nl:=nl) .no r (N:=N) (by omega)
    split at e
    · rename_i d' eg
      cases e
      exact ⟨_,_,_,rs,eg,fun v H' z _=>by
        obtain ⟨A',t,nd,fr⟩:=z.2.1 rfl
        exact kk v H' A' z.1 t nd fr⟩
    · rename_i δ' eg
      cases e
      exact ⟨_,_,_,rs,eg,fun σ' H' R' rs' _=>kk .non H' [] rs'.keep ⟨rfl,rfl⟩ List.nodup_nil (fun a z=>nomatch z)⟩
    · cases e
theorem z4T {x qual : Str} {st : Stmt} {f : Addr} {fd : FuncData} {N ps : List Str} {k np nl : Nat} {g : SS->Option Out} (F : Fun K x qual st f fd) (hm : mg x=some (.ref f)) (hb : Binds K fd ps []) (S : FnScope N ps (z0b st)) (hnp : ps.length=np) (hN : N.length=np + nl)
    (hbody : ∀ (cdv : Value) (A : Around) (outer : List Env) (s : Shared) (H : Hp) (E : XK),Room k (A.deeper (envOfC qual (z0b st) s.heap.objs.size f cdv)) →
      PSs (z8q CX0 P w K mg base N qual (z0b st) f cdv A outer s H E).nox (z0n st) (tS K H noB true noX g)) : DefOk P w K mg base (k + 1) x (spN K (z2L np nl g)):=
  ⟨f,fd,ps,hm,F.kp,hb,fnN F S hnp hN hbody⟩
/-- a def that may hand back a part of what it was handed -/
theorem defR {x qual : Str} {st : Stmt} {f : Addr} {fd : FuncData} {N ps : List Str} {k np nl : Nat} {g : SS->Option Out} (F : Fun K x qual st f fd) (hm : mg x=some (.ref f)) (hb : Binds K fd ps []) (S : FnScope N ps (z0b st)) (hnp : ps.length=np) (hN : N.length=np + nl)
    (hbody : ∀ (cdv : Value) (A : Around) (outer : List Env) (s : Shared) (H : Hp) (E : XK) (B : Addr->Prop),Room k (A.deeper (envOfC qual (z0b st) s.heap.objs.size f cdv)) →
      PSs (z8q CX0 P w K mg base N qual (z0b st) f cdv A outer s H E).nox (z0n st) (tS K H B false noX g)) : DefOk P w K mg base (k + 1) x (spR K (z2L np nl g)):=by
  refine ⟨f,fd,ps,hm,F.kp,hb,F.ok S (fun vs H Q E h=>?_) fun cdv A outer s H vs Q E hr h=>?_⟩
  · obtain ⟨B,ds,d,_,r,e,_⟩:=h
    rw [← r.length,z3q e,hnp]
  · obtain ⟨B,ds,d,hB,r,e,kk⟩:=h
    refine ⟨_,hbody cdv A outer s H E B hr,?_⟩
    have hl:=z3q e
    unfold z2L at e
    rw [if_pos hl] at e
    have rs:=z3M (nl:=nl) hB r (N:=N) (by omega)
    split at e
    · rename_i d' eg
      cases e
      exact ⟨_,_,_,rs,eg,fun v H' z _=>kk v H' z.1 (z.2.2 rfl)⟩
    · rename_i δ' eg
      cases e
      exact ⟨_,_,_,rs,eg,fun σ' H' R' rs' _=>kk .non H' rs'.keep rfl⟩
    · cases e
end
end L2

/-! ### E6: Python's own functions and operators by trees -/
namespace L2
open PySem PySem.Spec PyProof.Rows PySem.SeqAt

mutual
def toP : D->PyData
  | .non=>.none
  | .bl b=>.bool b
  | .int i=>.int i
  | .str x=>.str x
  | .lst ds=>.list (z9h ds)
  | .tup ds=>.tuple (z9h ds)
  | .scr ns=>.list (ns.map .int)
  | .dct _ _=>.dict []
  | .exc _=>.dict []
def z9h : List D->List PyData
  | []=>[]
  | d :: ds=>toP d :: z9h ds
end
theorem z6i {h : Heap} : ∀ (ns : List Int) {us : List Value},Vals (ns.map V.int) us->∃ as,ReadsAll h us (ns.map .int) as
  | [],_,.nil=>⟨_,.nil⟩
  | n :: ns,_,.cons r t=>by
    obtain ⟨tk,rfl⟩:=r
    obtain ⟨as,ra⟩:=z6i (h:=h) ns t
    exact ⟨_,.cons (.int n tk) ra⟩
section
variable {X : Cx} {pins : List (Addr × Obj)} {σ : St} {H : Hp} {s : Shared} {B : Addr->Prop}
mutual
theorem z1w (I : Inv X pins σ H s) : ∀ (d : D) {v : V} {u : Value},(toP d).canLay0=true->Rep X.K H B d v->RelV v u->∃ as,Reads s.heap u (toP d) as
  | .non,_,_,_,h,r=>by cases h; cases r; exact ⟨_,.none⟩
  | .bl b,_,_,_,h,r=>by cases h; cases r; exact ⟨_,.bool b⟩
  | .int i,_,_,_,h,r=>by cases h; obtain ⟨t,rfl⟩:=r; exact ⟨_,.int i t⟩
  | .str x,_,_,_,h,r=>by cases h; obtain ⟨t,rfl⟩:=r; exact ⟨_,.str x t⟩
  | .lst ds,_,_,hc,h,r=>by
    unfold Rep at h
    obtain ⟨a,xs,rfl,_,hq,rs⟩:=h
    cases r
    obtain ⟨its,rv,⟨o,n,e,c,_,dt⟩,_⟩:=I.list (SqL.of hq)
    have hc' : PyData.canLayAll0 (z9h ds)=true:=by unfold toP PyData.canLay0 at hc; exact hc
    obtain ⟨as,ra⟩:=z4t I ds hc' rs rv
    unfold toP
    exact ⟨_,.list e c dt (by simpa using ra)⟩
  | .tup ds,_,_,hc,h,r=>by
    unfold Rep at h
    obtain ⟨a,xs,rfl,hq,rs⟩:=h
    cases r
    obtain ⟨its,rv,⟨o,e,c,n,dt⟩,_⟩:=I.tuple hq
    have hc' : PyData.canLayAll0 (z9h ds)=true:=by unfold toP PyData.canLay0 at hc; exact hc
    obtain ⟨as,ra⟩:=z4t I ds hc' rs rv
    unfold toP
    exact ⟨_,.tuple e c dt (by simpa using ra)⟩
  | .scr ns,_,_,hc,h,r=>by
    unfold Rep at h
    obtain ⟨a,rfl,hq⟩:=h
    cases r
    obtain ⟨its,rv,⟨o,n,e,c,_,dt⟩,_⟩:=I.list hq.sq
    unfold toP
    obtain ⟨as,ra⟩:=z6i (h:=s.heap) ns rv
    exact ⟨_,.list e c dt (by simpa using ra)⟩
  | .dct _ _,_,_,hc,_,_=>by unfold toP PyData.canLay0 at hc; cases hc
  | .exc _,_,_,hc,_,_=>by unfold toP PyData.canLay0 at hc; cases hc
theorem z4t (I : Inv X pins σ H s) : ∀ (ds : List D) {xs : List V} {us : List Value},PyData.canLayAll0 (z9h ds)=true->Reps X.K H B ds xs->Vals xs us->∃ as,ReadsAll s.heap us (z9h ds) as
  | [],_,_,_,h,r=>by
    unfold Reps at h
    subst h
    cases r
    exact ⟨_,.nil⟩
  | d :: ds,_,_,hc,h,r=>by
    unfold Reps at h
    obtain ⟨x,rr,rfl,h1,h2⟩:=h
    unfold z9h PyData.canLayAll0 at hc
    rw [Bool.and_eq_true] at hc
    cases r with
    | cons r1 r2=>
      obtain ⟨as,ra⟩:=z1w I d hc.1 h1 r1
      obtain ⟨bs,rb⟩:=z4t I ds hc.2 h2 r2
      unfold z9h
      exact ⟨_,.cons ra rb⟩
end
end
/-- what may be compared -/
def okP (d : D) : Bool:=(toP d).canLay0 && decide ((toP d).depth≤60)
def eqD (x y : D) : Option D:=if (okP x && okP y)=true then some (.bl (PyData.eqv (toP x) (toP y))) else none
def neD (x y : D) : Option D:=if (okP x && okP y)=true then some (.bl (!PyData.eqv (toP x) (toP y))) else none
def memD (x : D) : D->Option Bool
  | .lst ds=>if (okP x && okP (.lst ds))=true then some (ds.any fun y=>PyData.eqv (toP y) (toP x)) else none
  | .tup ds=>if (okP x && okP (.tup ds))=true then some (ds.any fun y=>PyData.eqv (toP y) (toP x)) else none
  | _=>none
def ninD (x y : D) : Option D:=(memD x y).map fun b=>.bl (!b)
def rEqD (K : PySem.W.Frag) : R2:=fun x y H Q=>∃ B dx dy,Rep K H B dx x∧Rep K H B dy y∧okP dx=true∧okP dy=true∧Q (.bl (PyData.eqv (toP dx) (toP dy))) H
def rNeD (K : PySem.W.Frag) : R2:=fun x y H Q=>∃ B dx dy,Rep K H B dx x∧Rep K H B dy y∧okP dx=true∧okP dy=true∧Q (.bl (!PyData.eqv (toP dx) (toP dy))) H
theorem z0E {d : D} (h : okP d=true) : (toP d).canLay0=true∧(toP d).depth≤60:=by
  unfold okP at h
  rw [Bool.and_eq_true,decide_eq_true_eq] at h
  exact h
section
variable {X : Cx}
theorem y7S (hu : X.A.units + 64 < cLine) : OpR X (compareOp .Eq) (rEqD X.K):=by
  intro pins s σ H x y v u Q I rx ry h
  obtain ⟨B,dx,dy,r1,r2,o1,o2,q⟩:=h
  obtain ⟨as,ra⟩:=z1w I dx (z0E o1).1 r1 rx
  obtain ⟨bs,rb⟩:=z1w I dy (z0E o2).1 r2 ry
  exact compareEq_reads ra rb (z0E o1).1 (z0E o2).1 (by have:=(z0E o1).2; omega) ⟨.bl _,H,I,rfl,q⟩
theorem op_neD (hu : X.A.units + 64 < cLine) : OpR X (compareOp .NotEq) (rNeD X.K):=by
  intro pins s σ H x y v u Q I rx ry h
  obtain ⟨B,dx,dy,r1,r2,o1,o2,q⟩:=h
  obtain ⟨as,ra⟩:=z1w I dx (z0E o1).1 r1 rx
  obtain ⟨bs,rb⟩:=z1w I dy (z0E o2).1 r2 ry
  exact compareNe_reads ra rb (z0E o1).1 (z0E o2).1 (by have:=(z0E o1).2; omega) ⟨.bl _,H,I,rfl,q⟩
theorem o2_eq {K : PySem.W.Frag} : Op2 K (rEqD K) eqD:=by
  intro H B dx dy d x y Q hB hx hy q k
  unfold eqD at q
  split at q
  · rename_i h
    rw [Bool.and_eq_true] at h
    cases q
    exact ⟨B,dx,dy,hx,hy,h.1,h.2,k _ H (.refl H) rfl⟩
  · cases q
theorem o2_ne {K : PySem.W.Frag} : Op2 K (rNeD K) neD:=by
  intro H B dx dy d x y Q hB hx hy q k
  unfold neD at q
  split at q
  · rename_i h
    rw [Bool.and_eq_true] at h
    cases q
    exact ⟨B,dx,dy,hx,hy,h.1,h.2,k _ H (.refl H) rfl⟩
  · cases q
theorem z7a (p : PyData->Bool) : ∀ ds : List D,(z9h ds).any p=ds.any fun y=>p (toP y)
  | []=>rfl
  | d :: ds=>by unfold z9h; rw [List.any_cons,List.any_cons,z7a p ds]
def rInD (K : PySem.W.Frag) (neg : Bool) : R2:=fun x y H Q=>∃ B dx dy b,Rep K H B dx x∧Rep K H B dy y∧memD dx dy=some b∧Q (.bl (if neg then !b else b)) H
theorem op_ninD (hu : X.A.units + 64 < cLine) : OpR X (compareOp .NotIn) (rInD X.K true):=by
  intro pins s σ H x y v u Q I rx ry h
  obtain ⟨B,dx,dy,b,r1,r2,o,q⟩:=h
  unfold memD at o
  split at o
  · split at o
    · rename_i ds h
      rw [Bool.and_eq_true] at h
      cases o
      obtain ⟨as,ra⟩:=z1w I dx (z0E h.1).1 r1 rx
      obtain ⟨bs,rb⟩:=z1w I _ (z0E h.2).1 r2 ry
      have hc:=(z0E h.2).1
      unfold toP at rb hc
      unfold PyData.canLay0 at hc
      refine notIn_list_reads rb ra hc (z0E h.1).1 (by have:=(z0E h.1).2; omega) ?_
      rw [z7a]
      exact ⟨.bl _,H,I,rfl,q⟩
    · cases o
  · split at o
    · rename_i ds h
      rw [Bool.and_eq_true] at h
      cases o
      obtain ⟨as,ra⟩:=z1w I dx (z0E h.1).1 r1 rx
      obtain ⟨bs,rb⟩:=z1w I _ (z0E h.2).1 r2 ry
      have hc:=(z0E h.2).1
      unfold toP at rb hc
      unfold PyData.canLay0 at hc
      refine notIn_tuple_reads rb ra hc (z0E h.1).1 (by have:=(z0E h.1).2; omega) ?_
      rw [z7a]
      exact ⟨.bl _,H,I,rfl,q⟩
    · cases o
  · cases o
theorem o2_nin {K : PySem.W.Frag} : Op2 K (rInD K true) ninD:=by
  intro H B dx dy d x y Q hB hx hy q k
  unfold ninD at q
  cases e : memD dx dy with
  | none=>rw [e] at q; cases q
  | some b=>
    rw [e] at q
    cases q
    exact ⟨B,dx,dy,b,hx,hy,e,k _ H (.refl H) rfl⟩

/-! ### built-in functions -/
def OpA (K : PySem.W.Frag) (r : List V->Hp->VK->Prop) (F : List D->Option D) : Prop:=∀ (H : Hp) (B : Addr->Prop) (ds : List D) (d : D) (vs : List V) (Q : VK),InB B H->Reps K H B ds vs->F ds=some d->(∀ v H',Same H H'->Rep K H' B d v->Q v H')->r vs H Q
def OpL (K : PySem.W.Frag) (r : List V->Hp->VK->Prop) (F : List D->Option (List D)) : Prop:=∀ (H : Hp) (B : Addr->Prop) (ds es : List D) (vs : List V) (Q : VK),InB B H->Reps K H B ds vs->F ds=some es →
  (∀ a xs H',Same H H'->H a=none->H' a=some (.lst xs)->Reps K H' B es xs->Q (.ref a) H')->r vs H Q
def z2N (F : List D->Option (List D)) (fl : List DE) : DS->Option (List D):=fun δ=>(z0j fl δ).bind F
variable {x : Str} {bid T : String} {r : List V->Hp->VK->Prop} {e : Expr} {es : List Expr} {p pos : Pos} {fl : List DE}
theorem callA {F : List D->Option D} (ho : OpA X.K r F) (σ : St) (H : Hp) (Q : VK) (h : tD X.K (z0k F fl) σ H Q) : tCB r (tDs X.K (z0j fl)) σ H Q:=by
  obtain ⟨B,δ,d,hB,S,q,k⟩:=h
  obtain ⟨ds,e1,e2⟩:=z4o q
  exact ⟨B,δ,ds,hB,S,e1,fun vs H1 s1 r1=>ho H1 B ds d vs Q (hB.mono s1) r1 e2 fun v H' s' rv=>k v H' (s1.trans s') rv⟩
theorem callL {F : List D->Option (List D)} (ho : OpL X.K r F) (σ : St) (H : Hp) (Q : VK) (h : tF X.K (z2N F fl) σ H Q) : tCB r (tDs X.K (z0j fl)) σ H Q:=by
  obtain ⟨B,δ,d,hB,S,q,k⟩:=h
  unfold z2N at q
  cases e1 : z0j fl δ with
  | none=>rw [e1] at q; cases q
  | some ds=>
    rw [e1] at q
    exact ⟨B,δ,ds,hB,S,e1,fun vs H1 s1 r1=>ho H1 B ds d vs Q (hB.mono s1) r1 q fun a xs H' s' hn ha rv=>k a xs H' (s1.trans s') (s1.free hn) ha rv⟩
theorem z4e {F : List D->Option D} (hc : CallR X (.builtin bid) r) (hD : OpA X.K r F) (hg : Gl X x) (hm : X.mg x=none) (hv : bootBuiltins x=some (.builtin bid)) (ha : PAD X (e :: es) fl) (hn : x ≠ "__name__" := by decide) (hdb : (x == ("__debug__" : Str))=false:=by decide)
    (he : starEach (e :: es) X.env=(false,eval e X.env) :: starEach es X.env:=by rfl) (hpl : (backTo pos (starEach es X.env)).any (·.1)=false:=by rfl) : PD X (.Call (.Name x p) (e :: es) [] pos) (z0k F fl):=
  (z4S hc hg hm hv ha hn hdb he hpl).imp (callA hD)
theorem z9z {F : List D->Option D} (hc : CallR X (.type T) r) (hD : OpA X.K r F) (hg : Gl X x) (hm : X.mg x=none) (hv : bootBuiltins x=some (.type T)) (ha : PAD X (e :: es) fl) (hn : x ≠ "__name__" := by decide) (hdb : (x == ("__debug__" : Str))=false:=by decide)
    (he : starEach (e :: es) X.env=(false,eval e X.env) :: starEach es X.env:=by rfl) (hpl : (backTo pos (starEach es X.env)).any (·.1)=false:=by rfl) : PD X (.Call (.Name x p) (e :: es) [] pos) (z0k F fl):=
  (z4X hc hg hm hv ha hn hdb he hpl).imp (callA hD)
theorem y5E {F : List D->Option (List D)} (hc : CallR X (.type T) r) (hD : OpL X.K r F) (hg : Gl X x) (hm : X.mg x=none) (hv : bootBuiltins x=some (.type T)) (ha : PAD X (e :: es) fl) (hn : x ≠ "__name__" := by decide) (hdb : (x == ("__debug__" : Str))=false:=by decide)
    (he : starEach (e :: es) X.env=(false,eval e X.env) :: starEach es X.env:=by rfl) (hpl : (backTo pos (starEach es X.env)).any (·.1)=false:=by rfl) : PF X (.Call (.Name x p) (e :: es) [] pos) (z2N F fl):=
  (z4X hc hg hm hv ha hn hdb he hpl).imp (callL hD)
theorem z2Q {K : PySem.W.Frag} {H : Hp} {B : Addr->Prop} {d : D} {vs : List V} (h : Reps K H B [d] vs) : ∃ v,vs=[v]∧Rep K H B d v:=by
  unfold Reps at h
  obtain ⟨x,r,rfl,h1,h2⟩:=h
  unfold Reps at h2
  subst h2
  exact ⟨x,rfl,h1⟩
theorem reps2 {K : PySem.W.Frag} {H : Hp} {B : Addr->Prop} {d e : D} {vs : List V} (h : Reps K H B [d,e] vs) : ∃ v u,vs=[v,u]∧Rep K H B d v∧Rep K H B e u:=by
  unfold Reps at h
  obtain ⟨x,r,rfl,h1,h2⟩:=h
  obtain ⟨u,rfl,h3⟩:=z2Q h2
  exact ⟨x,u,rfl,h1,h3⟩
/-- len -/
def z3E : List D->Option D
  | [.lst ds]=>some (.int ds.length)
  | [.tup ds]=>some (.int ds.length)
  | [.scr ns]=>some (.int ns.length)
  | _=>none
theorem oa_len {K : PySem.W.Frag} : OpA K (fun xs H Q=>∃ x n,xs=[x]∧LenV K x H n∧Q (.int n) H) z3E:=by
  intro H B ds d vs Q hB hr q k
  unfold z3E at q
  split at q
  · cases q
    obtain ⟨v,rfl,r⟩:=z2Q hr
    unfold Rep at r
    obtain ⟨a,xs,rfl,_,h,rs⟩:=r
    refine ⟨.ref a,xs.length,rfl,.inl ⟨xs,SqL.of h,rfl⟩,k _ H (.refl H) ?_⟩
    show V.int _=V.int _
    rw [rs.length]
  · cases q
    obtain ⟨v,rfl,r⟩:=z2Q hr
    unfold Rep at r
    obtain ⟨a,xs,rfl,h,rs⟩:=r
    refine ⟨.ref a,xs.length,rfl,.inr ⟨xs,h,rfl⟩,k _ H (.refl H) ?_⟩
    show V.int _=V.int _
    rw [rs.length]
  · cases q
    obtain ⟨v,rfl,r⟩:=z2Q hr
    unfold Rep at r
    obtain ⟨a,rfl,h⟩:=r
    exact ⟨.ref a,_,rfl,.inl ⟨_,h.sq,(List.length_map ..).symm⟩,k _ H (.refl H) rfl⟩
  · cases q
theorem z2n {f : DE} (hg : Gl X "len") (hm : X.mg "len" = none) (h : PD X e f) (he : starEach [e] X.env=[(false,eval e X.env)]:=by rfl) : PD X (.Call (.Name "len" p) [e] [] pos) (z0k z3E [f]):=
  z4e y6F oa_len hg hm PySem.boot_len (z0a h z0c he) (by decide) (by decide) he rfl
/-- all,any,sum of a list -/
def z4s : List D->Option (List Bool)
  | []=>some []
  | .bl b :: r=>(z4s r).map (b :: ·)
  | _=>none
def z1n : List D->Option (List Int)
  | []=>some []
  | .int i :: r=>(z1n r).map (i :: ·)
  | _=>none
theorem z6d {K : PySem.W.Frag} {H : Hp} {B : Addr->Prop} : ∀ {ds : List D} {bs : List Bool} {xs : List V},z4s ds=some bs->Reps K H B ds xs->xs=bs.map V.bl
  | [],_,_,e,h=>by cases e; unfold Reps at h; exact h
  | .bl b :: r,bs,xs,e,h=>by
    unfold z4s at e
    cases q : z4s r with
    | none=>rw [q] at e; cases e
    | some cs=>
      rw [q] at e
      cases e
      unfold Reps at h
      obtain ⟨x,r',rfl,h1,h2⟩:=h
      rw [z6d q h2,show x=V.bl b from h1]
      rfl
  | .non :: _,_,_,e,_=>nomatch e
  | .int _ :: _,_,_,e,_=>nomatch e
  | .str _ :: _,_,_,e,_=>nomatch e
  | .lst _ :: _,_,_,e,_=>nomatch e
  | .tup _ :: _,_,_,e,_=>nomatch e
  | .dct _ _ :: _,_,_,e,_=>nomatch e
  | .exc _ :: _,_,_,e,_=>nomatch e
  | .scr _ :: _,_,_,e,_=>nomatch e
theorem z3N {K : PySem.W.Frag} {H : Hp} {B : Addr->Prop} : ∀ {ds : List D} {bs : List Int} {xs : List V},z1n ds=some bs->Reps K H B ds xs->xs=bs.map V.int
  | [],_,_,e,h=>by cases e; unfold Reps at h; exact h
  | .int b :: r,bs,xs,e,h=>by
    unfold z1n at e
    cases q : z1n r with
    | none=>rw [q] at e; cases e
    | some cs=>
      rw [q] at e
      cases e
      unfold Reps at h
      obtain ⟨x,r',rfl,h1,h2⟩:=h
      rw [z3N q h2,show x=V.int b from h1]
      rfl
  | .non :: _,_,_,e,_=>nomatch e
  | .bl _ :: _,_,_,e,_=>nomatch e
  | .str _ :: _,_,_,e,_=>nomatch e
  | .lst _ :: _,_,_,e,_=>nomatch e
  | .tup _ :: _,_,_,e,_=>nomatch e
  | .dct _ _ :: _,_,_,e,_=>nomatch e
  | .exc _ :: _,_,_,e,_=>nomatch e
  | .scr _ :: _,_,_,e,_=>nomatch e
theorem y0g : ∀ {bs : List Bool} {us : List Value},Vals (bs.map V.bl) us->PyProof.Rows.LSm.BoolsAre us bs
  | [],_,.nil=>.nil
  | b :: bs,_,.cons r t=>by
    cases r
    exact .cons b (y0g t)
theorem y5o (hc : X.calm=true) : CallR X (.builtin "all") (fun xs H Q=>∃ (p : Addr) (bs : List Bool),xs=[.ref p]∧SqL X.K H p (bs.map V.bl)∧Q (.bl (bs.all (fun b=>b))) H):=by
  intro pins s σ H xs us Q I r h
  obtain ⟨p,bs,rfl,hq,q⟩:=h
  obtain ⟨u,rfl,ru⟩:=z5o r
  cases ru
  obtain ⟨its,rv,pl,hz⟩:=I.list hq
  have hl:=pl.isList
  have hb:=y0g rv
  have hlt : p < s.heap.objs.size:=by obtain ⟨_,e,_⟩:=hl; exact Heap.lt_size e
  refine call_all_walk (wpAny_pyIter_list hl ?_)
  refine ⟨s.heap.objs.size,[s.heap.objs.size,p],[s.heap.objs.size],its.toArray.size,_,_,fun i=>(bs[i]?).getD true,rfl,Walks.list (A:=X.A.in1) (I.ok.hd hc) _ p (Nat.ne_of_lt hlt) its.toArray,
    ⟨⟨_,Heap.get?_push_size _ rfl,rfl,rfl⟩,hl.push _⟩,fun i v s' Q' E' hP hQ=>?_,fun h' tk hk=>?_⟩
  · obtain ⟨b,e,rfl⟩:=hb.get i v (by simpa using hP)
    simp only [e,Option.getD_some] at hQ
    exact wpAny_truthy_bool hQ
  · have e : ((List.range its.toArray.size).all fun i=>(bs[i]?).getD true)=bs.all (fun b=>b):=by
      rw [List.size_toArray,hb.length]; exact LSm.range_all bs
    rw [e]
    exact ⟨.bl _,H,I.kept (LSm.kept_iter hk),rfl,q⟩
theorem y5i (hc : X.calm=true) : CallR X (.builtin "sum") (fun xs H Q=>∃ (p : Addr) (ns : List Int),xs=[.ref p]∧SqL X.K H p (ns.map V.int)∧Q (.int ns.sum) H):=by
  intro pins s σ H xs us Q I r h
  obtain ⟨p,ns,rfl,hq,q⟩:=h
  obtain ⟨u,rfl,ru⟩:=z5o r
  cases ru
  obtain ⟨its,rv,pl,hz⟩:=I.list hq
  have hi:=z4z rv
  obtain ⟨xs,hx⟩:=hi.allInts.items
  have hl' : s.heap.IsList p (intItems xs):=hx ▸ pl.isList
  refine sum_intListG (I.ok.hd hc) hl' fun h' tk t' hk=>?_
  have e1 : ns=xs.toList.map (·.1):=by
    rw [← nums_intItems,← hx]
    exact (show numsOf its.toArray.toList=ns from hi.numsOf).symm
  have e2 : preSum (numAt xs) xs.size=ns.sum:=by
    rw [preSum_eq,List.take_of_length_le (by simp),e1]
  rw [e2]
  exact ⟨.int _,H,I.kept hk,⟨_,rfl⟩,q⟩
def allF : List D->Option D
  | [.lst ds]=>(z4s ds).map fun bs=>.bl (bs.all (fun b=>b))
  | _=>none
def sumF : List D->Option D
  | [.lst ds]=>(z1n ds).map fun ns=>.int ns.sum
  | _=>none
theorem oa_all {K : PySem.W.Frag} : OpA K (fun xs H Q=>∃ (p : Addr) (bs : List Bool),xs=[.ref p]∧SqL K H p (bs.map V.bl)∧Q (.bl (bs.all (fun b=>b))) H) allF:=by
  intro H B ds d vs Q hB hr q k
  unfold allF at q
  split at q
  · rename_i es
    cases e : z4s es with
    | none=>rw [e] at q; cases q
    | some bs=>
      rw [e] at q
      cases q
      obtain ⟨v,rfl,r⟩:=z2Q hr
      unfold Rep at r
      obtain ⟨a,xs,rfl,_,h,rs⟩:=r
      rw [z6d e rs] at h
      exact ⟨a,bs,rfl,SqL.of h,k _ H (.refl H) rfl⟩
  · cases q
theorem oa_sum {K : PySem.W.Frag} : OpA K (fun xs H Q=>∃ (p : Addr) (ns : List Int),xs=[.ref p]∧SqL K H p (ns.map V.int)∧Q (.int ns.sum) H) sumF:=by
  intro H B ds d vs Q hB hr q k
  unfold sumF at q
  split at q
  · rename_i es
    cases e : z1n es with
    | none=>rw [e] at q; cases q
    | some bs=>
      rw [e] at q
      cases q
      obtain ⟨v,rfl,r⟩:=z2Q hr
      unfold Rep at r
      obtain ⟨a,xs,rfl,_,h,rs⟩:=r
      rw [z3N e rs] at h
      exact ⟨a,bs,rfl,SqL.of h,k _ H (.refl H) rfl⟩
  · cases q
theorem y7z {f : DE} (hc : X.calm=true) (hg : Gl X "all") (hm : X.mg "all" = none) (h : PD X e f) (he : starEach [e] X.env=[(false,eval e X.env)]:=by rfl) : PD X (.Call (.Name "all" p) [e] [] pos) (z0k allF [f]):=
  z4e (y5o hc) oa_all hg hm PyProof.Rows.Boot.«all» (z0a h z0c he) (by decide) (by decide) he rfl
theorem y7X {f : DE} (hc : X.calm=true) (hg : Gl X "sum") (hm : X.mg "sum" = none) (h : PD X e f) (he : starEach [e] X.env=[(false,eval e X.env)]:=by rfl) : PD X (.Call (.Name "sum" p) [e] [] pos) (z0k sumF [f]):=
  z4e (y5i hc) oa_sum hg hm boot_sum (z0a h z0c he) (by decide) (by decide) he rfl
/-- list(x) of a list or a tuple -/
def z4A : List D->Option (List D)
  | [.lst ds]=>some ds
  | [.tup ds]=>some ds
  | [.scr ns]=>some (ns.map .int)
  | _=>none
theorem ol_list {K : PySem.W.Frag} : OpL K (fun xs H Q=>∃ p ys,xs=[.ref p]∧(SqL K H p ys∨SqT K H p ys)∧∀ l,H l=none->Q (.ref l) (upd H l (.lst ys))) z4A:=by
  intro H B ds es vs Q hB hr q k
  unfold z4A at q
  split at q
  · cases q
    obtain ⟨v,rfl,r⟩:=z2Q hr
    unfold Rep at r
    obtain ⟨a,xs,rfl,_,h,rs⟩:=r
    exact ⟨a,xs,rfl,.inl (SqL.of h),fun l hl=>k l xs _ (z0p hl) hl z0m (rs.mono (z0p hl))⟩
  · cases q
    obtain ⟨v,rfl,r⟩:=z2Q hr
    unfold Rep at r
    obtain ⟨a,xs,rfl,h,rs⟩:=r
    exact ⟨a,xs,rfl,.inr h,fun l hl=>k l xs _ (z0p hl) hl z0m (rs.mono (z0p hl))⟩
  · cases q
    obtain ⟨v,rfl,r⟩:=z2Q hr
    unfold Rep at r
    obtain ⟨a,rfl,h⟩:=r
    exact ⟨a,_,rfl,.inl h.sq,fun l hl=>k l _ _ (z0p hl) hl z0m (z2h _)⟩
  · cases q
theorem z3S {f : DE} (hg : Gl X "list") (hm : X.mg "list" = none) (h : PD X e f) (he : starEach [e] X.env=[(false,eval e X.env)]:=by rfl) : PF X (.Call (.Name "list" p) [e] [] pos) (z2N z4A [f]):=
  y5E z7z ol_list hg hm PyProof.Rows.Boot.«list» (z0a h z0c he) (by decide) (by decide) he rfl
/-- tuple(x) -/
def y1P : List D->Option D
  | [.lst ds]=>some (.tup ds)
  | [.tup ds]=>some (.tup ds)
  | _=>none
theorem oa_tup {K : PySem.W.Frag} : OpA K (fun xs H Q=>∃ p ys,xs=[.ref p]∧((SqL K H p ys∧∀ l,H l=none->Q (.ref l) (upd H l (.tup ys)))∨(SqT K H p ys∧Q (.ref p) H))) y1P:=by
  intro H B ds d vs Q hB hr q k
  unfold y1P at q
  split at q
  · cases q
    obtain ⟨v,rfl,r⟩:=z2Q hr
    unfold Rep at r
    obtain ⟨a,xs,rfl,_,h,rs⟩:=r
    exact ⟨a,xs,rfl,.inl ⟨SqL.of h,fun l hl=>k _ _ (z0p hl) (by unfold Rep; exact ⟨l,xs,rfl,SqT.of z0m,rs.mono (z0p hl)⟩)⟩⟩
  · cases q
    obtain ⟨v,rfl,r⟩:=z2Q hr
    have r0:=r
    unfold Rep at r
    obtain ⟨a,xs,rfl,h,rs⟩:=r
    exact ⟨a,xs,rfl,.inr ⟨h,k _ _ (.refl H) r0⟩⟩
  · cases q
theorem z4R {f : DE} (hg : Gl X "tuple") (hm : X.mg "tuple" = none) (h : PD X e f) (he : starEach [e] X.env=[(false,eval e X.env)]:=by rfl) : PD X (.Call (.Name "tuple" p) [e] [] pos) (z0k y1P [f]):=
  z9z z6P oa_tup hg hm PyProof.Rows.Boot.«tuple» (z0a h z0c he) (by decide) (by decide) he rfl
end
end L2

/-! ### E7: isinstance; lists that are owned,changed -/
namespace L2
open PySem PySem.Spec PyProof.Rows

def tyN : D->String
  | .non => "NoneType"
  | .bl _ => "bool"
  | .int _ => "int"
  | .str _ => "str"
  | .lst _ => "list"
  | .tup _ => "tuple"
  | .scr _ => "list"
  | .dct _ _ => "dict"
  | .exc _ => "object"
/-- isinstance(x,T) for these T -/
inductive IsT : String->Prop where
  | bool : IsT "bool" | int : IsT "int" | str : IsT "str" | list : IsT "list" | tuple : IsT "tuple" | dict : IsT "dict"
def isF (T : String) (d : D) : Bool:=tyN d == T || (tyN d == "bool" && T == "int")
theorem kit_tt (K : PySem.W.Frag) {T : String} (h : IsT T) (d : D) (hd : ∀ x,d≠.exc x) : PySem.W.kitOne K (.type (tyN d)) (.type T)=some (isF T d):=by
  cases h <;> cases d <;> first | kernel_rfl | exact absurd rfl (hd _)
section
variable {prog : Program} {w : World} {A : Around} {E : Value->Shared->Prop} {K : PySem.W.Frag} {x D : Addr} {ox : Obj} {s : Shared}
/-- the class of an exception of the program's own,by its name __class__ -/
theorem y4G {Q : Option Value->Shared->Prop} (X : K.In s.heap) (I : PySem.W.InstAt s.heap x ox D none) (hga : PySem.W.findIn K (.ref D) "__getattribute__" = some (some (.builtin "BaseException.__getattribute__"))) (hgh : PySem.W.findIn K (.ref D) "__getattr__" = some none)
    (hf : PySem.W.findObj K D none "__class__" = some (.bind (.builtin "getset_descriptor.__get__") (.builtin "object.__class__"))) (hm : PySem.W.mroIn K D (.type "object")=some true) (hb : PySem.W.mroIn K D (.type "BaseException")=some true)
    (h : Q (some (.ref D)) { s with toks:=s.toks + 1 }) : wpAny (model prog w) A (getAttr? (.ref x) "__class__") Q E s:=by
  obtain ⟨hp,gs,dr,tk,os⟩:=s
  have T0:=I.type (M:=model prog w)
  have T1:=PySem.W.looks_findIn (M:=model prog w) X hga
  have T2:=PySem.W.looks_findIn (M:=model prog w) X hgh
  have T3:=PySem.W.looks_find (M:=model prog w) X I hf
  have T4:=PySem.W.looks_mroIn (M:=model prog w) X hb
  have hne : (onTheHeap (Value.ref D) && Value.builtin "BaseException.__getattribute__" == Value.builtin "object.__getattribute__")=false:=by
    have z : (Value.builtin "BaseException.__getattribute__" == Value.builtin "object.__getattribute__")=false:=by decide +kernel
    rw [z,Bool.and_false]
  unfold getAttr? getAttrBy?
  refine wpAny_bind (wpAny_mkText ?_)
  refine wpAny_bind (wpAny_attempt ?_)
  unfold getAttrBy
  refine wpAny_holding (wpAny_bind (T0.at ?_))
  refine wpAny_bind (T1.at ?_)
  dsimp only
  rw [hne,if_neg Bool.false_ne_true]
  unfold getAttrByItsOwn hookBefore
  rw [if_pos (show onTheHeap (Value.ref D)=true from rfl)]
  refine wpAny_bind (T2.at ?_)
  refine wpAny_bind (wpAny_attempt (wpAny_holding ?_))
  unfold callGetattribute boundAndCalled
  rw [Bool.false_and,if_neg Bool.false_ne_true,F.excAttr_ValueError.ga.bind]
  refine wpAny_bind (wpAny_pure ?_)
  refine wpAny_call (codeAny_call_builtin F.excAttr_ValueError.ga.plain F.entry_bexc_ga ?_)
  have k1 : builtinKind "BaseException.__getattribute__" = some .slot:=by decide +kernel
  have k2 : splitId "BaseException.__getattribute__" = some ("BaseException", "__getattribute__"):=by decide +kernel
  simp only [checkBuiltinCall,k1,k2]
  have ha:=F.args_bexc_ga (.ref x) (.str "__class__" tk)
  have TI : PySem.W.Looks (model prog w) hp (isInstance (.ref x) (.type "BaseException")) true:=T0.andThen T4
  show wpAny _ _ (isInstance (.ref x) (.type "BaseException") >>= _) _ _ _
  refine wpAny_bind (TI.at ?_)
  rw [if_neg (by decide)]
  unfold argsOk at ha
  refine wpAny_of_eq (a:=()) ha ?_
  unfold Builtin.«object.__getattribute__»
  refine wpAny_bind (wpAny_of_eq (a:=(Value.ref x,[Value.str "__class__" tk])) rfl ?_)
  dsimp only
  refine wpAny_bind (wpAny_of_eq (a:=("__class__" : Str)) rfl ?_)
  refine wpAny_bind (T0.at ?_)
  refine wpAny_bind (T3.at ?_)
  show wpAny _ _ (holding [Value.builtin "object.__class__"] (call (.builtin "getset_descriptor.__get__") [.builtin "object.__class__",.ref x,.ref D]) >>= ret) _ _ _
  refine wpAny_bind (wpAny_holding (wpAny_call (PySem.W.class_get X I hm ?_)))
  refine wpAny_pure ?_
  exact PySem.W.handed_on rfl (wpAny_pure h)
end
theorem xcls_of {K : PySem.W.Frag} {C : Addr} (h : z4u K C=true) : PySem.W.findIn K (.ref C) "__getattribute__" = some (some (.builtin "BaseException.__getattribute__"))∧PySem.W.findIn K (.ref C) "__getattr__" = some none∧PySem.W.mroIn K C (.type "BaseException")=some true∧(PySem.W.clsIn K C).isSome=true ∧
    PySem.W.findIn K (.ref C) "__class__" = some (some (.builtin "object.__class__"))∧PySem.W.specialIn K (.builtin "object.__class__") "__get__" = some (some (.builtin "getset_descriptor.__get__"))∧PySem.W.takesIn K (.builtin "object.__class__")=some true∧PySem.W.mroIn K C (.type "object")=some true:=by
  unfold z4u at h
  simp only [Bool.and_eq_true,beq_iff_eq] at h
  exact ⟨h.1.1.1.1.1.1.1.1,h.1.1.1.1.1.1.1.2,h.1.1.1.1.1.1.2,h.1.1.1.1.1.2,h.1.1.1.1.2,h.1.1.1.2,h.1.1.2,h.1.2⟩
/-- an exception answers isinstance by its class -/
theorem z9y {K : PySem.W.Frag} {x C : Addr} {ox : Obj} (h : z4u K C=true) : PySem.W.KitX K (.ref x) (.ref C) (fun g=>PySem.W.InstAt g x ox C none):=by
  obtain ⟨g1,g2,g3,h2,h3,h4,h5,h6⟩:=xcls_of h
  obtain ⟨cd,hcd⟩:=Option.isSome_iff_exists.mp h2
  have hk : ∃ c d sl,K.lookup C=some ⟨c,d,.cls cd,sl⟩:=by
    unfold PySem.W.clsIn at hcd
    split at hcd
    · cases hcd; exact ⟨_,_,_,by assumption⟩
    · cases hcd
  obtain ⟨c0,d0,sl0,hk⟩:=hk
  have hf : PySem.W.findObj K C none "__class__" = some (.bind (.builtin "getset_descriptor.__get__") (.builtin "object.__class__")):=by
    unfold PySem.W.findObj
    rw [hcd,Option.bind_some,h3,Option.bind_some]
    simp [h4,h5]
  refine ⟨fun _ _ _ I=>I.type,fun _ _ X _=>?_,fun g tp dd its n sl X ht=>?_,fun X I k=>?_⟩
  · intro A' Q' E' s' kk q
    unfold isType loadHead
    exact wpAny_bind (wpAny_loadPart (kk _ _ (X _ _ hk)) (wpAny_pure q))
  · cases hz : (Value.ref C == Value.ref tp) with
    | false=>rfl
    | true=>
      have e : C=tp:=Value.ref.inj (beq_iff_eq.mp hz)
      rw [← e] at ht
      have z:=(X _ _ hk).symm.trans ht
      cases z
  · exact y4G X I g1 g2 hf h6 g3 k
theorem y7N {X : Cx} {pins : List (Addr × Obj)} {σ : St} {H : Hp} {s : Shared} {a C : Addr} (I : Inv X pins σ H s) (h : H a=some (.ext (isX a C))) : ∃ o,PySem.W.InstAt s.heap a o C none:=by
  obtain ⟨⟨o,h1,h2,h3,h4⟩,_⟩:=(show ObjOk X.prog X.w H s.heap a (.ext (isX a C)) from I.hok a _ h)
  exact ⟨o,h1,h2,h4,by rw [h3]; trivial⟩
section
variable {X : Cx} {pins : List (Addr × Obj)} {σ : St} {H : Hp} {s : Shared} {B : Addr->Prop} {A : Around} {E : Value->Shared->Prop} {Q : Value->Shared->Prop}
theorem y1e {d : D} {v : V} {u : Value} {T : String} (I : Inv X pins σ H s) (r : Rep X.K H B d v) (rv : RelV v u) (hT : IsT T) (h : ∀ tk,Q (.bool (isF T d)) { s with toks:=tk }) : wpAny (model X.prog X.w) A (call (.builtin "isinstance") [u,.type T]) Q E s:=by
  by_cases hd : ∃ x,d = .exc x
  · obtain ⟨x,rfl⟩:=hd
    unfold Rep at r
    obtain ⟨a,C,rfl,_,hq,_,hx⟩:=r
    cases rv
    obtain ⟨o,ie⟩:=y7N I hq
    have e : PySem.W.kitOne X.K (.ref C) (.type T)=some (isF T (.exc x)):=by
      have h6:=(Bool.and_eq_true_iff.mp hx).2
      rw [List.all_eq_true] at h6
      have h7:=beq_iff_eq.mp (h6 T (by cases hT <;> decide))
      rw [h7]
      cases hT <;> rfl
    exact PySem.W.kia_one (z9y hx) I.kIn ie e (fun z=>nomatch z) h
  have hd : ∀ x,d≠.exc x:=fun x z=>hd ⟨x,z⟩
  have e:=kit_tt X.K hT d hd
  cases d with
  | exc x=>exact absurd rfl (hd x)
  | non=>cases r; cases rv; exact PySem.W.kia_one PySem.W.kitx_none I.kIn True.intro e (fun z=>nomatch z) h
  | bl y=>cases r; cases rv; exact PySem.W.kia_one PySem.W.kitx_bool I.kIn True.intro e (fun z=>nomatch z) h
  | int i=>cases r; obtain ⟨t,q⟩:=rv; cases q; exact PySem.W.kia_one PySem.W.kitx_int I.kIn True.intro e (fun z=>nomatch z) h
  | str y=>cases r; obtain ⟨t,q⟩:=rv; cases q; exact PySem.W.kia_one PySem.W.kitx_str I.kIn True.intro e (fun z=>nomatch z) h
  | lst ds=>
    unfold Rep at r
    obtain ⟨a,xs,rfl,_,hq,_⟩:=r
    cases rv
    obtain ⟨its,_,⟨o,n,e1,c,_⟩,_⟩:=I.list (SqL.of hq)
    exact PySem.W.kia_one PySem.W.kitx_list I.kIn ⟨o,e1,c⟩ e (fun z=>nomatch z) h
  | tup ds=>
    unfold Rep at r
    obtain ⟨a,xs,rfl,hq,_⟩:=r
    cases rv
    obtain ⟨its,_,⟨o,e1,c,_⟩,_⟩:=I.tuple hq
    exact PySem.W.kia_one PySem.W.kitx_tuple I.kIn ⟨o,e1,c⟩ e (fun z=>nomatch z) h
  | scr ns=>
    unfold Rep at r
    obtain ⟨a,rfl,hq⟩:=r
    cases rv
    obtain ⟨its,_,⟨o,n,e1,c,_⟩,_⟩:=I.list hq.sq
    exact PySem.W.kia_one PySem.W.kitx_list I.kIn ⟨o,e1,c⟩ e (fun z=>nomatch z) h
  | dct ks ds=>
    unfold Rep at r
    obtain ⟨a,kvs,rfl,_,ea,_⟩:=r
    cases rv
    obtain ⟨_,_,vs,_,p⟩:=(show ObjOk X.prog X.w H s.heap a (.dK kvs) from I.hok a _ ea)
    obtain ⟨o,es,ep,h1,h2,_⟩:=p
    exact PySem.W.kia_one PySem.W.kitx_dict I.kIn ⟨o,h1,h2.1⟩ e (fun z=>nomatch z) h
end
section
variable {X : Cx} {e : Expr} {p p2 pos : Pos}
def dIs (T : String) (f : DE) : DE:=fun δ=>(f δ).map fun d=>.bl (isF T d)
theorem y5M {T : String} (hT : IsT T) : CallR X (.builtin "isinstance") (fun xs H Q=>∃ B d v,xs=[v,.ty T]∧Rep X.K H B d v∧Q (.bl (isF T d)) H):=by
  intro pins s σ H xs us Q I r h
  obtain ⟨B,d,v,rfl,rv,q⟩:=h
  obtain ⟨u,w',rfl,r1,r2⟩:=vals2 r
  cases r2
  exact y1e I rv r1 hT fun tk=>⟨.bl _,H,I.tok tk,rfl,q⟩
theorem y5I {f : DE} {x : Str} {T : String} (hT : IsT T) (hb : bootBuiltins x=some (.type T)) (hx : Gl X x) (hmx : X.mg x=none) (hnx : x ≠ "__name__") (hdx : (x == ("__debug__" : Str))=false) (hg : Gl X "isinstance") (hm : X.mg "isinstance" = none) (h : PD X e f)
    (he : starEach [e,.Name x p2] X.env=[(false,eval e X.env),(false,eval (.Name x p2) X.env)]:=by rfl) (he2 : starEach [.Name x p2] X.env=[(false,eval (.Name x p2) X.env)]:=by rfl) : PD X (.Call (.Name "isinstance" p) [e,.Name x p2] [] pos) (dIs T f):=
  (z4S (y5M hT) hg hm boot_isinstance (z1o h (z1o (pe_bltn (v:=.ty T) hx hmx hb rfl hnx hdx) pa_nil he2) (by rw [he,he2])) (by decide) (by decide) (by rw [he,he2]) (by rw [he2]; rfl)).imp fun σ H Q ⟨B,δ,d,hB,S,q,k⟩=>by
    unfold dIs at q
    cases e1 : f δ with
    | none=>rw [e1] at q; cases q
    | some d'=>
      rw [e1] at q
      cases q
      exact ⟨B,δ,d',hB,S,e1,fun v H1 s1 r1=>⟨B,d',v,rfl,r1,k _ H1 s1 rfl⟩⟩
theorem z8c {f : DE} (hx : Gl X "bool") (hmx : X.mg "bool" = none) (hg : Gl X "isinstance") (hm : X.mg "isinstance" = none) (h : PD X e f) (he : starEach [e,.Name "bool" p2] X.env=[(false,eval e X.env),(false,eval (.Name "bool" p2) X.env)]:=by rfl) :
    PD X (.Call (.Name "isinstance" p) [e,.Name "bool" p2] [] pos) (dIs "bool" f):=y5I .bool PyProof.Rows.Boot.«bool» hx hmx (by decide) (by decide) hg hm h he rfl
theorem y0v {f : DE} (hx : Gl X "int") (hmx : X.mg "int" = none) (hg : Gl X "isinstance") (hm : X.mg "isinstance" = none) (h : PD X e f) (he : starEach [e,.Name "int" p2] X.env=[(false,eval e X.env),(false,eval (.Name "int" p2) X.env)]:=by rfl) :
    PD X (.Call (.Name "isinstance" p) [e,.Name "int" p2] [] pos) (dIs "int" f):=y5I .int PyProof.Rows.Boot.«int» hx hmx (by decide) (by decide) hg hm h he rfl
theorem y1G {f : DE} (hx : Gl X "list") (hmx : X.mg "list" = none) (hg : Gl X "isinstance") (hm : X.mg "isinstance" = none) (h : PD X e f) (he : starEach [e,.Name "list" p2] X.env=[(false,eval e X.env),(false,eval (.Name "list" p2) X.env)]:=by rfl) :
    PD X (.Call (.Name "isinstance" p) [e,.Name "list" p2] [] pos) (dIs "list" f):=y5I .list PyProof.Rows.Boot.«list» hx hmx (by decide) (by decide) hg hm h he rfl
theorem y6Q {f : DE} (hx : Gl X "tuple") (hmx : X.mg "tuple" = none) (hg : Gl X "isinstance") (hm : X.mg "isinstance" = none) (h : PD X e f) (he : starEach [e,.Name "tuple" p2] X.env=[(false,eval e X.env),(false,eval (.Name "tuple" p2) X.env)]:=by rfl) :
    PD X (.Call (.Name "isinstance" p) [e,.Name "tuple" p2] [] pos) (dIs "tuple" f):=y5I .tuple PyProof.Rows.Boot.«tuple» hx hmx (by decide) (by decide) hg hm h he rfl
end

/-! ### an owned list is changed -/
/-- what was lent by slot i is forgotten -/
def z8g (i : Nat) : Option SD->Option SD
  | some (.bo r d)=>if r=i then none else some (.bo r d)
  | o=>o
def z0x (i : Nat) (δ : SS) : SS:=δ.map (z8g i)
theorem z4v {i j : Nat} {δ : SS} {x : SD} (h : (z0x i δ)[j]? = some (some x)) : δ[j]? = some (some x)∧∀ d,x≠.bo i d:=by
  unfold z0x at h
  rw [List.getElem?_map] at h
  cases e : δ[j]? with
  | none=>rw [e] at h; cases h
  | some o=>
    rw [e] at h
    have h' : z8g i o=some x:=Option.some.inj h
    unfold z8g at h'
    split at h'
    · rename_i r d
      split at h'
      · cases h'
      · rename_i hr
        cases h'
        exact ⟨rfl,fun d' z=>by cases z; exact hr rfl⟩
    · rename_i hn
      subst h'
      exact ⟨rfl,fun d z=>hn i d (by rw [z])⟩
section
variable {K : PySem.W.Frag} {H0 H : Hp} {B0 : Addr->Prop} {σ : St} {δ : SS} {R : Nat->List Addr}
/-- the list at a,of the slot i's tree,is rewritten: the tree behind it is told; what is new since Hold may come in -/
theorem RS.rewrite {Hold : Hp} {i : Nat} {d d' : D} {a : Addr} {o : HO} {v : V} {A' : List Addr} (h : RS K H0 B0 Hold σ δ R) (e : Same Hold H) (hi : δ[i]? = some (some (.ow d))) (hv : σ[i]? = some (some v)) (ha : a∈R i) (t : Tree K (upd H a o) d' v A') (nd : A'.Nodup) (sub : ∀ b∈A',b∈R i∨Hold b=none) :
    RS K H0 B0 (upd H a o) σ ((z0x i δ).set i (some (.ow d'))) (y1q R i A')∧Stp R Hold (y1q R i A') (upd H a o):=by
  have hm:=h.mono e
  obtain ⟨oa,ea,ma⟩:=hm.held i a ha
  have mH : Mut (H a):=by rw [ea]; exact ma
  have mem : ∀ r b,b∈y1q R i A' r->b∈R r∨(r=i∧Hold b=none):=fun r b z=>by
    by_cases hr : r=i
    · subst hr; rw [z1N] at z; exact (sub b z).imp id fun q=>⟨rfl,q⟩
    · rw [z2G hr] at z; exact .inl z
  have kt : KeepI K H (upd H a o):=(Keep.upd (K:=K) (B:=fun x=>x=a) rfl mH).i
  have nh : ∀ r b,b∈R r->Hold b=none->False:=fun r b z q=>by
    obtain ⟨u,q',_⟩:=h.held r b z
    rw [q] at q'; cases q'
  refine ⟨⟨fun b u q=>?_,h.inB,by simp [z0x,h.len],fun r b z=>?_,fun r b z=>?_,fun r s b z z'=>?_,fun j d2 z=>?_,fun j r2 d2 z=>?_,fun j d2 z=>?_⟩,⟨fun b u q n=>?_,fun r b z=>?_,fun b z=>?_⟩⟩
  · have ne : b≠a:=fun z=>by subst z; rw [h.new i b ha] at q; cases q
    rw [z0s ne]; exact hm.keep b u q
  · rcases mem r b z with z | ⟨_,z⟩
    · exact h.new r b z
    · exact h.keep.free z
  · by_cases hr : r=i
    · subst hr; rw [z1N] at z; exact t.held d' b z
    · rw [z2G hr] at z
      have ne : b≠a:=fun q=>hr (h.disj r i b z (q ▸ ha))
      rw [z0s ne]; exact hm.held r b z
  · rcases mem r b z with z | ⟨z1,z2⟩ <;> rcases mem s b z' with z' | ⟨z1',z2'⟩
    · exact h.disj r s b z z'
    · exact (nh r b z z2').elim
    · exact (nh s b z' z2).elim
    · rw [z1,z1']
  · rcases z2w z with ⟨rfl,q,_⟩ | ⟨hj,q⟩
    · cases q
    · obtain ⟨q1,_⟩:=z4v q
      obtain ⟨w,e1,r⟩:=h.sh j d2 q1
      have r2:=(Rep.wide (C:=fun b=>Hold b=none) (fun _ z=>z) d2 r).mono e
      refine ⟨w,e1,Rep.anti ?_ d2 (Rep.keep (.upd (.inl (.inr ⟨i,ha⟩)) mH) d2 r2)⟩
      rintro b (z | ⟨r,z⟩)
      · exact .inl (.inl z)
      · rcases mem r b z with z | ⟨_,z⟩
        · exact .inl (.inr ⟨r,z⟩)
        · exact .inr z
  · rcases z2w z with ⟨rfl,q,_⟩ | ⟨hj,q⟩
    · cases q
    · obtain ⟨q1,q2⟩:=z4v q
      have hr : i≠r2:=fun e=>q2 d2 (by rw [e])
      obtain ⟨w,e1,r⟩:=h.bo j r2 d2 q1
      have r3:=(Rep.wide (C:=fun b=>Hold b=none) (fun _ z=>z) d2 r).mono e
      refine ⟨w,e1,Rep.anti ?_ d2 (Rep.keep (.upd (.inl (.inr ⟨i,hr,ha⟩)) mH) d2 r3)⟩
      rintro b (z | ⟨s,hs,z⟩)
      · exact .inl (.inl z)
      · rcases mem s b z with z | ⟨_,z⟩
        · exact .inl (.inr ⟨s,hs,z⟩)
        · exact .inr z
  · rcases z2w z with ⟨rfl,q,_⟩ | ⟨hj,q⟩
    · cases q
      rw [z1N]
      exact ⟨v,hv,t,nd⟩
    · obtain ⟨q1,_⟩:=z4v q
      obtain ⟨w,e1,t',nd'⟩:=hm.ow j d2 q1
      rw [z2G hj]
      refine ⟨w,e1,Tree.keep kt d2 t' fun b hb u q=>?_,nd'⟩
      have ne : b≠a:=fun z=>by subst z; exact hj (h.disj j i b hb ha)
      rw [z0s ne]; exact q
  · have ne : b≠a:=fun z=>n i (z ▸ ha)
    rw [z0s ne]; exact e b u q
  · rcases mem r b z with z | ⟨_,z⟩
    · exact .inl ⟨r,z⟩
    · exact .inr z
  · by_cases hb : b=a
    · subst hb; rw [z0m] at z; cases z
    · rw [z0s hb] at z; exact e.free z
/- items that cannot change,in a tree without lists -/
mutual
theorem Tree.flat : ∀ (d : D) {v : V} {A : List Addr},d.imm=true->Tree K H d v A->A=[]
  | .non,_,_,_,h=>h.2
  | .bl _,_,_,_,h=>h.2
  | .int _,_,_,_,h=>h.2
  | .str _,_,_,_,h=>h.2
  | .lst _,_,_,i,_=>by unfold D.imm at i; cases i
  | .dct _ _,_,_,i,_=>by unfold D.imm at i; cases i
  | .exc _,_,_,i,_=>by unfold D.imm at i; cases i
  | .tup ds,_,_,i,h=>by
    unfold D.imm at i
    unfold Tree at h
    obtain ⟨a,xs,_,_,r⟩:=h
    exact Trees.flat ds i r
  | .scr _,_,_,_,h=>h.2
theorem Trees.flat : ∀ (ds : List D) {xs : List V} {A : List Addr},z1l ds=true->Trees K H ds xs A->A=[]
  | [],_,_,_,h=>h.2
  | d :: ds,_,_,i,h=>by
    unfold z1l at i
    rw [Bool.and_eq_true] at i
    unfold Trees at h
    obtain ⟨x,r,C,C',rfl,h1,h2,rfl⟩:=h
    rw [Trees.flat ds i.2 h2,List.append_nil]
    exact Tree.flat d i.1 h1
end
theorem Trees.append : ∀ {ds es : List D} {xs ys : List V} {A C : List Addr},Trees K H ds xs A->Trees K H es ys C->Trees K H (ds ++ es) (xs ++ ys) (A ++ C)
  | [],_,_,_,_,_,h,h'=>by obtain ⟨rfl,rfl⟩:=h; exact h'
  | d :: ds,es,_,ys,_,C,h,h'=>by
    unfold Trees at h
    obtain ⟨y,r,A1,A2,rfl,h1,h2,rfl⟩:=h
    exact (show Trees K H (d :: (ds ++ es)) (y :: (r ++ ys)) (A1 ++ A2 ++ C) by unfold Trees; exact ⟨y,_,A1,A2 ++ C,rfl,h1,Trees.append h2 h',List.append_assoc _ _ _⟩)
theorem Trees.split : ∀ {ds : List D} {xs : List V} {A : List Addr} (k : Nat),Trees K H ds xs A->∃ A1 A2,A=A1 ++ A2∧Trees K H (ds.take k) (xs.take k) A1∧Trees K H (ds.drop k) (xs.drop k) A2
  | ds,xs,A,0,h=>⟨[],A,rfl,by rw [List.take_zero,List.take_zero]; exact ⟨rfl,rfl⟩,h⟩
  | [],_,_,k + 1,h=>by
    obtain ⟨rfl,rfl⟩:=h
    exact ⟨[],[],rfl,⟨rfl,rfl⟩,⟨rfl,rfl⟩⟩
  | d :: ds,_,_,k + 1,h=>by
    unfold Trees at h
    obtain ⟨y,r,A1,A2,rfl,h1,h2,rfl⟩:=h
    obtain ⟨C1,C2,rfl,h3,h4⟩:=Trees.split k h2
    refine ⟨A1 ++ C1,C2,(List.append_assoc _ _ _).symm,?_,h4⟩
    rw [List.take_succ_cons,List.take_succ_cons]
    unfold Trees
    exact ⟨y,_,A1,C1,rfl,h1,h3,rfl⟩
theorem Trees.one {d : D} {x : V} {A : List Addr} (h : Tree K H d x A) : Trees K H [d] [x] A:=by
  unfold Trees
  exact ⟨x,[],A,[],rfl,h,⟨rfl,rfl⟩,(List.append_nil _).symm⟩
theorem Trees.length : ∀ {ds : List D} {xs : List V} {A : List Addr},Trees K H ds xs A->ds.length=xs.length
  | [],_,_,h=>by obtain ⟨rfl,_⟩:=h; rfl
  | d :: ds,_,_,h=>by
    unfold Trees at h
    obtain ⟨x,r,_,_,rfl,_,h2,_⟩:=h
    simp [Trees.length h2]
theorem RS.top {i : Nat} {ds : List D} (h : RS K H0 B0 H σ δ R) (hi : δ[i]? = some (some (.ow (.lst ds)))) : ∃ a xs A,σ[i]? = some (some (.ref a))∧H a=some (.lst xs)∧Trees K H ds xs A∧R i=a :: A∧(a :: A).Nodup:=by
  obtain ⟨v,e,t,nd⟩:=h.ow i _ hi
  unfold Tree at t
  obtain ⟨a,xs,A,rfl,ha,ts,e2⟩:=t
  rw [e2] at nd
  exact ⟨a,xs,A,e,ha,ts,e2,nd⟩
/-- the owned list of slot i gets other items -/
theorem RS.put0 {Hold : Hp} {i : Nat} {ds ds' : List D} {a : Addr} {xs' : List V} {A A' : List Addr} (h : RS K H0 B0 Hold σ δ R) (e : Same Hold H) (hi : δ[i]? = some (some (.ow (.lst ds)))) (hv : σ[i]? = some (some (.ref a))) (hR : R i=a :: A) (nd : (a :: A).Nodup)
    (t : Trees K H ds' xs' A') (nd' : A'.Nodup) (sub : ∀ b∈A',b∈A∨Hold b=none) : RS K H0 B0 (upd H a (.lst xs')) σ ((z0x i δ).set i (some (.ow (.lst ds')))) (y1q R i (a :: A'))∧Stp R Hold (y1q R i (a :: A')) (upd H a (.lst xs')):=by
  have ha : a∈R i:=by rw [hR]; exact List.mem_cons_self
  obtain ⟨oa,ea,ma⟩:=h.held i a ha
  have nA : ∀ b∈A',b≠a:=fun b hb z=>by
    rcases sub b hb with q | q
    · exact (List.nodup_cons.mp nd).1 (z ▸ q)
    · rw [z,ea] at q; cases q
  have mH : Mut (H a):=by rw [e a oa ea]; exact ma
  refine h.rewrite e hi hv ha ?_ (List.nodup_cons.mpr ⟨fun z=>nA a z rfl,nd'⟩) fun b hb=>?_
  · unfold Tree
    refine ⟨a,xs',A',rfl,z0m,Trees.keep (Keep.upd (K:=K) (B:=fun x=>x=a) rfl mH).i ds' t fun b hb o q=>?_,rfl⟩
    rw [z0s (nA b hb)]; exact q
  · rw [hR]
    rcases List.mem_cons.mp hb with z | z
    · rw [z]; exact .inl List.mem_cons_self
    · exact (sub b z).imp (List.mem_cons_of_mem _) id
end
end L2

/-! ### E8: methods and stores on owned lists; nested comprehensions; slices; arithmetic in short -/
namespace L2
open PySem PySem.Spec PyProof.Rows

instance {i j : Int} : Decidable (CDiv i j):=by unfold CDiv; infer_instance
instance {i j : Int} : Decidable (CPow i j):=by unfold CPow; infer_instance
instance {i j : Int} : Decidable (CMul i j):=by unfold CMul; infer_instance

/-- what a list's method makes of its items,by trees; what it hands back is not looked at -/
def LM (K : PySem.W.Frag) (r : V->List V->Hp->VK->Prop) (F : List D->List D->Option (List D)) : Prop:=
  ∀ (H : Hp) (a : Addr) (xs : List V) (ds args : List D) (vs : List V) (ds' : List D) (Q : VK),H a=some (.lst xs)->ds.length=xs.length->Reps K H noB args vs->F ds args=some ds' →
    (∀ (w : V) (xs' : List V),(∀ (H2 : Hp) (A C : List Addr),Trees K H2 ds xs A->Trees K H2 args vs C->∃ A',Trees K H2 ds' xs' A'∧((A ++ C).Nodup->A'.Nodup)∧∀ b∈A',b∈A∨b∈C)->Q w (upd H a (.lst xs')))->r (.ref a) vs H Q

def z5W : List D->List D->Option (List D):=fun ds args=>match args with
  | [d]=>if ds.length < sizeLine then some (ds ++ [d]) else none
  | _=>none
theorem z2R {K : PySem.W.Frag} : LM K z7b z5W:=by
  intro H a xs ds args vs ds' Q ha hl hr q k
  unfold z5W at q
  split at q
  · rename_i d
    split at q
    · rename_i hz
      cases q
      obtain ⟨y,rfl,ry⟩:=z2Q hr
      refine ⟨a,xs,y,rfl,rfl,ha,by rw [← hl]; exact hz,k _ _ fun H2 A C t tc=>⟨A ++ C,t.append tc,fun z=>z,fun b hb=>List.mem_append.mp hb⟩⟩
    · cases q
  · cases q
/-- insert(k,y) -/
def y1a (n : Nat) (i : Int) : Nat:=if i < 0 then (i + (n : Int)).toNat else min i.toNat n
def y2v : V->List V->Hp->VK->Prop:=fun x vs H Q=>∃ l xs i y,x = .ref l∧vs=[.int i,y]∧H l=some (.lst xs)∧xs.length < sizeLine∧-(2 ^ 63)≤i∧i < 2 ^ 63∧Q .non (upd H l (.lst (xs.take (y1a xs.length i) ++ y :: xs.drop (y1a xs.length i))))
theorem ins_arr (its : List Value) (k : Nat) (y : Value) : (its.toArray.extract 0 k).push y ++ its.toArray.extract k=(its.take k ++ y :: its.drop k).toArray:=by
  apply Array.ext'
  simp
  rw [List.take_of_length_le (by simp)]
theorem y2C {X : Cx} : MtM X "list.insert" y2v:=by
  intro pins s σ H x vs v us Q I rx rv h
  obtain ⟨l,xs,i,y,rfl,rfl,hH,hz,h1,h2,q⟩:=h
  cases rx
  obtain ⟨u,w',rfl,⟨t,rfl⟩,ry⟩:=rv.two
  obtain ⟨z,its,n,r,hl,e⟩:=I.lstM hH
  have hfit : Builtin.List.listFitsIndex i=true:=fitsIndex_both h1 h2
  refine call_meets F.slot_list_insert ⟨_,e,rfl⟩ F.entry_list_insert (F.args_list_insert_3 _ _ _)
    (AutoSeq1.list_insert_list_int_val_1 l its.toArray n i t w' (by rw [hfit]; decide) (by rw [List.size_toArray]; omega)) ⟨e,?_⟩
  refine ⟨.non,_,I.lset (its':=its.take (y1a its.length i) ++ w' :: its.drop (y1a its.length i)) (ys:=xs.take (y1a xs.length i) ++ y :: xs.drop (y1a xs.length i)) hH e ?_ ?_ ?_,rfl,q⟩
  · show (its.toArray.extract 0 (if i < 0 then (i + (its.toArray.size : Int)).toNat else min i.toNat its.toArray.size)).push w' ++ its.toArray.extract (if i < 0 then (i + (its.toArray.size : Int)).toNat else min i.toNat its.toArray.size)=_
    rw [ins_arr,List.size_toArray]
    rfl
  · rw [← hl]
    exact (r.take _).append (.cons ry (r.drop _))
  · have : y1a xs.length i≤xs.length∨¬ y1a xs.length i≤xs.length:=Decidable.em _
    simp only [List.length_append,List.length_take,List.length_cons,List.length_drop]
    omega
def y5x : List D->List D->Option (List D):=fun ds args=>match args with
  | [.int i,d]=>if ds.length < sizeLine∧-(2 ^ 63)≤i∧i < 2 ^ 63 then some (ds.take (y1a ds.length i) ++ d :: ds.drop (y1a ds.length i)) else none
  | _=>none
theorem y1z {A1 A2 C : List Addr} (h : (A1 ++ A2 ++ C).Nodup) : (A1 ++ (C ++ A2)).Nodup:=by
  have p : (A1 ++ A2 ++ C).Perm (A1 ++ (C ++ A2)):=by
    rw [List.append_assoc]
    exact List.Perm.append_left _ List.perm_append_comm
  exact p.nodup_iff.mp h
theorem y5g {K : PySem.W.Frag} : LM K y2v y5x:=by
  intro H a xs ds args vs ds' Q ha hl hr q k
  unfold y5x at q
  split at q
  · rename_i i d
    split at q
    · rename_i hz
      cases q
      obtain ⟨v,y,rfl,rv,ry⟩:=reps2 hr
      cases (show v=V.int i from rv)
      refine ⟨a,xs,i,y,rfl,rfl,ha,by rw [← hl]; exact hz.1,hz.2.1,hz.2.2,k _ _ fun H2 A C t tc=>?_⟩
      rw [← hl]
      obtain ⟨A1,A2,rfl,t1,t2⟩:=t.split (y1a ds.length i)
      unfold Trees at tc
      obtain ⟨x1,r1,C1,C2,e1,h1,h2,rfl⟩:=tc
      cases e1
      obtain ⟨_,eC1⟩:=(show V.int i=V.int i∧C1=[] from h1)
      subst eC1
      unfold Trees at h2
      obtain ⟨x2,r2,C3,C4,e2,h3,h4,rfl⟩:=h2
      cases e2
      obtain ⟨_,rfl⟩:=h4
      refine ⟨A1 ++ (C3 ++ A2),t1.append ?_,fun z=>?_,fun b hb=>?_⟩
      · unfold Trees
        exact ⟨_,_,C3,A2,rfl,h3,t2,rfl⟩
      · simp only [List.nil_append,List.append_nil] at z
        exact y1z z
      · simp only [List.nil_append,List.append_nil,List.mem_append] at hb ⊢
        rcases hb with z | z | z
        · exact .inl (.inl z)
        · exact .inr z
        · exact .inl (.inr z)
    · cases q
  · cases q

section
variable {X : Cx} {H0 : Hp} {B0 : Addr->Prop} {fr : Bool} {RX : XR} {e e2 : Expr} {es : List Expr} {pos ap cp : Pos} {x name : Str} {px p2 : Pos} {bid : String} {r : V->List V->Hp->VK->Prop} {F : List D->List D->Option (List D)} {fl : List DE}
/-- x.m(..) at the owned list of slot i,with what cannot change; at its k-th item -/
def m0 (i : Nat) (F : List D->List D->Option (List D)) (fl : List DE) : SS->Option Out:=fun δ=>(z0j fl (z0o δ)).bind fun args=>if z1l args=true then (match δ[i]? with
  | some (some (.ow (.lst ds)))=>(F ds args).map fun ds'=>.nx ((z0x i δ).set i (some (.ow (.lst ds'))))
  | _=>none) else none
theorem m0_core {i : Nat} {to : TE} (hL : LM X.K r F) (hto : to=z9Y i) (D : Ends) (σ : St) (H : Hp) (h : tS X.K H0 B0 fr RX (m0 i F fl) D σ H) : y6s (tBM X.K "list" r to (tDs X.K (z0j fl))) D σ H:=by
  subst hto
  obtain ⟨δ,R,o,rs,q,k⟩:=h
  unfold m0 at q
  cases e1 : z0j fl (z0o δ) with
  | none=>rw [e1] at q; cases q
  | some args=>
    rw [e1] at q
    have q : (if z1l args=true then (match δ[i]? with | some (some (.ow (.lst ds)))=>(F ds args).map fun ds'=>Out.nx ((z0x i δ).set i (some (.ow (.lst ds')))) | _=>none) else none)=some o:=q
    split at q
    case isFalse=>cases q
    case isTrue hi=>
    split at q
    case h_2=>cases q
    case h_1 ds ei=>
    cases e2 : F ds args with
    | none=>rw [e2] at q; cases q
    | some ds'=>
      rw [e2] at q
      cases q
      obtain ⟨a,xs,A,ev,ha,ts,eR,nd⟩:=rs.top ei
      refine ⟨.ref a,ev,.inl ⟨rfl,xs,SqL.of ha⟩,noB,z0o δ,args,.no,rs.all,e1,fun vs H2 s2 r2=>?_⟩
      refine hL H2 a xs ds args vs ds' _ (s2 _ _ ha) ts.length r2 e2 fun w xs' up=>?_
      obtain ⟨A',t',n',sub⟩:=up H2 A [] (ts.mono s2) (r2.immTree args hi)
      have P:=rs.put0 s2 ei ev eR nd t' (n' (by rw [List.append_nil]; exact (List.nodup_cons.mp nd).2)) fun b hb=>(sub b hb).imp id (fun z=>nomatch z)
      exact k σ _ _ P.1 P.2
theorem s_m0 {i : Nat} (slot : Slot "list" name bid) (hty : typeOf (.builtin bid)=pure (.type "method_descriptor")) (hm : MtM X bid r) (hL : LM X.K r F) (hx : PE X (.Name x px) (z9Y i)) (ha : PAD X (e :: es) fl)
    (hbase : attributeBase (.Name x px) name X.env (eval (.Name x px) X.env)=eval (.Name x px) X.env:=by rfl)
    (hfew : ((backTo cp (starEach (e :: es) X.env)).all (fun x=>!x.1) && (backToKw cp (keywordEach [] X.env)).all (fun x=>x.1.isSome) && decide ((e :: es).length + ([] : List Keyword).length + (if ([] : List Keyword).isEmpty then 0 else 1) < 30))=true:=by rfl)
    (hline : (ap.endLine == cp.line)=true:=by rfl) (hs : starEach (e :: es) X.env=(false,eval e X.env) :: starEach es X.env:=by rfl) (hplain : (backTo cp (starEach es X.env)).any (·.1)=false:=by rfl)
    (hsw : swapsWith (.Call (.Attribute (.Name x px) name ap) (e :: es) [] cp) none pos.line X.env=pure false:=by rfl) :
    PS X (.Expr (.Call (.Attribute (.Name x px) name ap) (e :: es) [] cp) pos) (tS X.K H0 B0 fr RX (m0 i F fl)):=
  PS.imp (z5c (y6R PySem.F.plainAttrs_list slot hty hm hx ha hbase hfew hline hs hplain) hsw) (m0_core hL rfl)

/-- x[k].m(..): the k-th item of the owned list of slot i,a list whose items cannot change -/
def m1 (i : Nat) (fk : DE) (F : List D->List D->Option (List D)) (fl : List DE) : SS->Option Out:=fun δ=>(fk (z0o δ)).bind fun dk=>match dk with
  | .int k=>(z0j fl (z0o δ)).bind fun args=>if z1l args=true then (match δ[i]? with
    | some (some (.ow (.lst ds)))=>(ixN ds.length k).bind fun j=>match ds[j]? with
      | some (.lst es)=>if z1l es=true then (F es args).bind fun es'=>if z1l es'=true then some (.nx ((z0x i δ).set i (some (.ow (.lst (ds.set j (.lst es'))))))) else none else none
      | _=>none
    | _=>none) else none
  | _=>none

/-- x[k]=e,x[k][j]=e with what cannot change -/
def st0 (i : Nat) (fk fv : DE) : SS->Option Out:=fun δ=>(fv (z0o δ)).bind fun d=>if d.imm=true then (fk (z0o δ)).bind fun dk=>(match dk,δ[i]? with
  | .int k,some (some (.ow (.lst ds)))=>(ixN ds.length k).map fun j=>.nx ((z0x i δ).set i (some (.ow (.lst (ds.set j d)))))
  | _,_=>none) else none
def st1 (i : Nat) (fk fj fv : DE) : SS->Option Out:=fun δ=>(fv (z0o δ)).bind fun d=>if d.imm=true then (fk (z0o δ)).bind fun dk=>(fj (z0o δ)).bind fun dj=>(match dk,dj,δ[i]? with
  | .int k,.int j,some (some (.ow (.lst ds)))=>(ixN ds.length k).bind fun k'=>(match ds[k']? with
    | some (.lst es)=>if z1l es=true then (ixN es.length j).map fun j'=>.nx ((z0x i δ).set i (some (.ow (.lst (ds.set k' (.lst (es.set j' d))))))) else none
    | _=>none)
  | _,_,_=>none) else none
end
end L2

/-! ### E9: stores; nested comprehensions; slices; defs that take over a list -/
namespace L2
open PySem PySem.Spec PyProof.Rows
theorem Trees.setI {K : PySem.W.Frag} {H : Hp} {d : D} {y : V} (ty : Tree K H d y []) : ∀ {ds : List D} {xs : List V} {A : List Addr} (j : Nat),Trees K H ds xs A->∃ A',Trees K H (ds.set j d) (xs.set j y) A'∧A'.Sublist A
  | [],_,_,_,h=>by
    obtain ⟨rfl,rfl⟩:=h
    exact ⟨[],⟨rfl,rfl⟩,List.Sublist.refl _⟩
  | e :: ds,_,_,0,h=>by
    unfold Trees at h
    obtain ⟨x,r,A1,A2,rfl,h1,h2,rfl⟩:=h
    refine ⟨A2,?_,List.sublist_append_right _ _⟩
    rw [List.set_cons_zero,List.set_cons_zero]
    unfold Trees
    exact ⟨y,r,[],A2,rfl,ty,h2,rfl⟩
  | e :: ds,_,_,k + 1,h=>by
    unfold Trees at h
    obtain ⟨x,r,A1,A2,rfl,h1,h2,rfl⟩:=h
    obtain ⟨A',t,sb⟩:=Trees.setI ty k h2
    refine ⟨A1 ++ A',?_,List.Sublist.append_left sb _⟩
    rw [List.set_cons_succ,List.set_cons_succ]
    unfold Trees
    exact ⟨x,_,A1,A',rfl,h1,t,rfl⟩
section
variable {X : Cx} {H0 : Hp} {B0 : Addr->Prop} {fr : Bool} {RX : XR} {e ke je : Expr} {pos : Pos} {x : Str} {px p2 p3 : Pos}
theorem s_st0 {i : Nat} {fk fv : DE} (hx : PE X (.Name x px) (z9Y i)) (hk : PD X ke fk) (hv : PD X e fv)
    (ha : ∀ v,assign (.Subscript (.Name x px) ke p2) X.env v=(do
      let ov ← holding [v] (eval (.Name x px) X.env)
      let iv ← holding [v,ov] (eval ke X.env)
      standAt p2
      holding [v,ov,iv] (setItem ov iv v)
      release [v,ov,iv] []):=by intro _; rfl)
    (hs : swapsWithSole [.Subscript (.Name x px) ke p2] e pos.line X.env=pure false:=by rfl) (hw : swappedStores [.Subscript (.Name x px) ke p2] e X.env=pure none:=by rfl)
    (h1 : (assignEach [.Subscript (.Name x px) ke p2] X.env).map (·.2)=[assign (.Subscript (.Name x px) ke p2) X.env]:=by rfl) :
    PS X (.Assign [.Subscript (.Name x px) ke p2] e pos) (tS X.K H0 B0 fr RX (st0 i fk fv)):=
  PS.imp (ps_asg hv (pg_sub hx hk y5T ha) hs hw h1) fun D σ H ⟨δ,R,o,rs,q,kk⟩=>by
    unfold st0 at q
    cases e1 : fv (z0o δ) with
    | none=>rw [e1] at q; cases q
    | some d=>
    rw [e1] at q
    have q : (if d.imm=true then (fk (z0o δ)).bind fun dk=>(match dk,δ[i]? with
      | .int k,some (some (.ow (.lst ds)))=>(ixN ds.length k).map fun j=>Out.nx ((z0x i δ).set i (some (.ow (.lst (ds.set j d)))))
      | _,_=>none) else none)=some o:=q
    split at q
    case isFalse=>cases q
    case isTrue hi=>
    cases e2 : fk (z0o δ) with
    | none=>rw [e2] at q; cases q
    | some dk=>
    rw [e2] at q
    simp only [Option.bind_some] at q
    split at q
    case h_2=>cases q
    case h_1=>
    rename_i k ds ei
    cases ej : ixN ds.length k with
    | none=>rw [ej] at q; cases q
    | some j=>
    rw [ej] at q
    cases q
    obtain ⟨a,xs,A,ev,ha',ts,eR,nd⟩:=rs.top ei
    refine ⟨noB,z0o δ,d,.no,rs.all,e1,fun v H1 s1 r1=>⟨.ref a,ev,noB,z0o δ,.int k,.no,rs.all.mono s1,e2,fun v2 H2 s2 r2=>?_⟩⟩
    cases (show v2=V.int k from r2)
    refine ⟨a,xs,k,j,rfl,rfl,s2 _ _ (s1 _ _ ha'),by rw [← ts.length]; exact ej,?_⟩
    obtain ⟨A',t',sb⟩:=Trees.setI ((r1.immTree d hi).mono s2) j (ts.mono (s1.trans s2))
    have P:=rs.put0 (s1.trans s2) ei ev eR nd t' ((List.nodup_cons.mp nd).2.sublist sb) fun b hb=>.inl (sb.subset hb)
    exact kk σ _ _ P.1 P.2
end

/-! ### slices of lists -/
section
variable {X : Cx} {e a b : Expr} {lo hi : Option Expr} {p2 pos : Pos}
def tO (K : PySem.W.Frag) (f : DS->Option (Option Int)) : TO:=fun σ H Q=>∃ B δ o,InB B H∧RepS K H B σ δ∧f δ=some o∧∀ H',Same H H'->Q o H'
abbrev POD (X : Cx) (e : Option Expr) (f : DS->Option (Option Int)) : Prop:=PO X e (tO X.K f)
theorem PO.imp {eo : Option Expr} {t t' : TO} (h : PO X eo t) (w : ∀ σ H Q,t' σ H Q->t σ H Q) : PO X eo t':=fun pins s σ H Q I q=>h pins s σ H Q I (w σ H Q q)
def z2e : DS->Option (Option Int):=fun _=>some none
def z3t (f : DE) : DS->Option (Option Int):=fun δ=>match f δ with
  | some (.int i)=>some (some i)
  | _=>none
theorem z1W : POD X none z2e:=po_none.imp fun σ H Q ⟨B,δ,o,hB,S,q,k⟩=>by
  cases q
  exact k H (.refl H)
theorem z1d {f : DE} (h : PD X e f) : POD X (some e) (z3t f):=(po_some h).imp fun σ H Q ⟨B,δ,o,hB,S,q,k⟩=>by
  unfold z3t at q
  split at q
  · rename_i i e1
    cases q
    exact ⟨B,δ,.int i,hB,S,e1,fun v H' s r=>⟨i,r,k H' s⟩⟩
  · cases q
def z3s (ds : List D) (lo hi : Option Int) : List D:=(ds.drop (HT.sIx ds.length 0 lo)).take (HT.sIx ds.length ds.length hi - HT.sIx ds.length 0 lo)
def y1o (f : DE) (fl fh : DS->Option (Option Int)) : DS->Option (List D):=fun δ=>match f δ with
  | some (.lst ds)=>(fl δ).bind fun lo=>(fh δ).map fun hi=>z3s ds lo hi
  | some (.scr ns)=>(fl δ).bind fun lo=>(fh δ).map fun hi=>z3s (ns.map .int) lo hi
  | _=>none
theorem z2p {f : DE} {fl fh : DS->Option (Option Int)} (he : PD X e f) (hl : POD X lo fl) (hh : POD X hi fh) : PF X (.Subscript e (.Slice lo hi none p2) pos) (y1o f fl fh):=(z9n sl_list he hl hh).imp fun σ H Q ⟨B,δ,ds',hB,S,q,k⟩=>by
  unfold y1o at q
  have core : ∀ (d : D) (ds : List D),f δ=some d->((fl δ).bind fun lo=>(fh δ).map fun hi=>z3s ds lo hi)=some ds'->(∀ v H1,Rep X.K H1 B d v->∃ a xs,v = .ref a∧(∀ H2,Same H1 H2->SqL X.K H2 a xs)∧Reps X.K H1 B ds xs) →
      tSl (rSlL X.K) (tD X.K f) (tO X.K fl) (tO X.K fh) σ H Q:=by
    intro d ds e1 q get
    cases e2 : fl δ with
    | none=>rw [e2] at q; cases q
    | some l=>
    cases e3 : fh δ with
    | none=>rw [e2,e3] at q; cases q
    | some u=>
    rw [e2,e3] at q
    cases q
    refine ⟨B,δ,_,hB,S,e1,fun v H1 s1 r1=>⟨B,δ,l,hB.mono s1,S.mono s1,e2,fun H2 s2=>⟨B,δ,u,(hB.mono s1).mono s2,(S.mono s1).mono s2,e3,fun H3 s3=>?_⟩⟩⟩
    obtain ⟨a,xs,rfl,hq,rs⟩:=get v H1 r1
    refine ⟨a,xs,rfl,hq H3 (s2.trans s3),fun p hp=>?_⟩
    have sa:=z0p (o:=.lst (y1n xs l u)) hp
    refine k p _ _ (((s1.trans s2).trans s3).trans sa) ((s1.trans (s2.trans s3)).free hp) z0m ?_
    unfold z3s y1n
    rw [rs.length]
    exact ((rs.drop _).take _).mono ((s2.trans s3).trans sa)
  split at q
  case h_3=>cases q
  case h_1 ds e1=>
    refine core _ ds e1 q fun v H1 r1=>?_
    unfold Rep at r1
    obtain ⟨a,xs,rfl,_,hq,rs⟩:=r1
    exact ⟨a,xs,rfl,fun H2 s2=>SqL.of (s2 _ _ hq),rs⟩
  case h_2 ns e1=>
    refine core _ (ns.map .int) e1 q fun v H1 r1=>?_
    unfold Rep at r1
    obtain ⟨a,rfl,hq⟩:=r1
    exact ⟨a,_,rfl,fun H2 s2=>(s2.sf hq).sq,z2h ns⟩
end

/-! ### [elt for x in iter if c],each item all new -/
section
variable {X : Cx} {pos : Pos} {x : Str} {iter elt : Expr} {N' : List Str} {sc : Scope} {ifs : List Expr} {n : Nat} {px : Pos} {fi : DS->Option (List D)} {fc : DS->Option Bool} {fe : DE}
theorem y7f {σ : St} {H : Hp} {Q : VK} (hσ : σ.length=n) (hq : tN X.K (mkL (z1X fi fc fe)) σ H Q) : y4a (tI X.K fi) (z3u n) (tT X.K fc) (tN X.K fe) 1 σ H Q:=by
  obtain ⟨δ,d0,Sδ,q,k⟩:=hq
  unfold mkL at q
  cases eds : z1X fi fc fe δ with
  | none=>rw [eds] at q; cases q
  | some ds=>
  rw [eds] at q
  cases q
  unfold z1X at eds
  cases e1 : fi δ with
  | none=>rw [e1] at eds; cases eds
  | some xs=>
  rw [e1] at eds
  have q1 : (if xs.length≤sizeLine then z2g (fun x=>(fc (δ ++ [some x])).bind fun k=>if k=true then (fe (δ ++ [some x])).map some else some none) xs else none)=some ds:=eds
  split at q1
  case isFalse=>cases q1
  case isTrue hsz=>
  refine ⟨noB,δ,xs,.no,Sδ,e1,fun J H1 s1 itw=>fun Da hD=>?_⟩
  have hD0 : H Da=none:=s1.free hD
  have it:=itw (fun a=>H1 a=none) fun a ha=>ha
  refine ⟨fun i m σ' H'=>m=xs.length - i∧i≤xs.length∧(∃ w,σ'=σ ++ [w])∧Same H1 H'∧∃ ys dn rs A,H' Da=some (.lst ys)∧Trees X.K H' dn ys A∧(Da :: A).Nodup∧(∀ a∈A,H1 a=none)∧ds=dn ++ rs∧dn.length≤i ∧
    z2g (fun x=>(fc (δ ++ [some x])).bind fun k=>if k=true then (fe (δ ++ [some x])).map some else some none) (xs.drop i)=some rs,
    ⟨xs.length,by simp,Nat.zero_le _,⟨none,rfl⟩,z0p hD,[],[],ds,[],z0m,.nil,List.nodup_cons.mpr ⟨(fun z=>nomatch z),List.nodup_nil⟩,(fun a z=>nomatch z),rfl,Nat.le_refl _,q1⟩,?_⟩
  rintro i m σ' H' ⟨rfl,hi',⟨w,rfl⟩,sm,ys,dn,rs,A,hys,tys,nd,fr,hds,hln,hrs⟩
  have kp : Keep X.K (fun a=>noB a∨H1 a=none) H1 H':=.same sm
  by_cases hlt : i < xs.length
  · refine .inr ⟨it.go i H' kp hlt,fun σ'' H''=>(i + 1≤xs.length∧(∃ w,σ''=σ ++ [w])∧Same H1 H''∧∃ ys dn rs A,H'' Da=some (.lst ys)∧Trees X.K H'' dn ys A∧(Da :: A).Nodup∧(∀ a∈A,H1 a=none)∧ds=dn ++ rs∧dn.length≤i + 1 ∧
      z2g (fun x=>(fc (δ ++ [some x])).bind fun k=>if k=true then (fe (δ ++ [some x])).map some else some none) (xs.drop (i + 1))=some rs),fun σ'' H'' h=>⟨xs.length - (i + 1),by omega,rfl,h⟩,fun xv H2 hy=>?_⟩
    obtain ⟨s2,d,hd,rd⟩:=it.yld i H' xv H2 kp hy
    have hdi:=hd hlt
    have hx : xs.drop i=d :: xs.drop (i + 1):=by
      obtain ⟨hl,e⟩:=List.getElem?_eq_some_iff.mp hdi
      rw [List.drop_eq_getElem_cons hl,e]
    rw [hx] at hrs
    obtain ⟨o,rs',e2,e3,e4⟩:=z4j hrs
    show tT X.K fc ((σ ++ [w]).set n (some xv)) H2 _
    rw [← hσ,z7f]
    have S2 : RepS X.K H2 noB (σ ++ [some xv]) (δ ++ [some d]):=(((Sδ.mono s1).mono sm).mono s2).snoc (rd.anti fun a z=>z.elim)
    have hl2 : ys.length < sizeLine:=by
      have:=tys.length
      omega
    cases ec : fc (δ ++ [some d]) with
    | none=>rw [ec] at e2; cases e2
    | some kk=>
      rw [ec] at e2
      have e2' : (if kk=true then (fe (δ ++ [some d])).map some else some none)=some o:=e2
      refine ⟨noB,δ ++ [some d],kk,.no,S2,ec,fun H3 s3=>?_⟩
      cases kk with
      | false=>
        rw [if_neg Bool.false_ne_true] at e2'
        rw [if_neg Bool.false_ne_true]
        cases e2'
        exact ⟨hlt,⟨_,rfl⟩,(sm.trans s2).trans s3,ys,dn,rs',A,s3 _ _ (s2 _ _ hys),(tys.mono s2).mono s3,nd,fr,by rw [hds,e4]; rfl,Nat.le_succ_of_le hln,e3⟩
      | true=>
        rw [if_pos rfl] at e2'
        rw [if_pos rfl]
        cases ey : fe (δ ++ [some d]) with
        | none=>rw [ey] at e2'; cases e2'
        | some y=>
          rw [ey] at e2'
          cases e2'
          refine ⟨δ ++ [some d],y,S2.mono s3,ey,fun yv H5 A5 s5 t5 nd5 fr5=>⟨ys,s5 _ _ (s3 _ _ (s2 _ _ hys)),hl2,?_⟩⟩
          have s15 : Same H' H5:=(s2.trans s3).trans s5
          have hu : H5 Da=some (.lst ys):=s15 _ _ hys
          have mu : Mut (H5 Da):=by rw [hu]; exact trivial
          have hDa3 : H3 Da=some (.lst ys):=s3 _ _ (s2 _ _ hys)
          have nDa : Da ∉ A ++ A5:=fun z=>by
            rcases List.mem_append.mp z with z | z
            · exact (List.nodup_cons.mp nd).1 z
            · have:=fr5 Da z
              rw [hDa3] at this; cases this
          refine ⟨hlt,⟨_,rfl⟩,fun b u hb=>?_,ys ++ [yv],dn ++ [y],rs',A ++ A5,z0m,?_,List.nodup_cons.mpr ⟨nDa,?_⟩,fun a ha=>?_,by rw [hds,e4,List.append_assoc]; rfl,by rw [List.length_append]; simp; omega,e3⟩
          · rw [z0s (z1f hb hD)]
            exact s15 _ _ (sm _ _ hb)
          · refine Trees.keep (Keep.upd (K:=X.K) (B:=fun x=>x=Da) rfl mu).i _ ((tys.mono s15).snoc t5) fun b hb u q=>?_
            have ne : b≠Da:=fun z=>nDa (z ▸ hb)
            rw [z0s ne]; exact q
          · refine List.nodup_append.mpr ⟨(List.nodup_cons.mp nd).2,nd5,fun b hb c hc z=>?_⟩
            subst z
            obtain ⟨u,q,_⟩:=Trees.held _ tys b hb
            have:=fr5 b hc
            rw [(s2.trans s3) _ _ q] at this; cases this
          · rcases List.mem_append.mp ha with z | z
            · exact fr a z
            · exact sm.free ((s2.trans s3).free (fr5 a z))
  · have e : i=xs.length:=by omega
    subst e
    refine .inl ⟨it.stop _ H' kp (Nat.le_refl _),?_⟩
    rw [List.drop_length] at hrs
    cases hrs
    rw [List.append_nil] at hds
    subst hds
    refine k (.ref Da) H' (Da :: A) (s1.trans sm) ?_ nd fun a ha=>?_
    · unfold Tree
      exact ⟨Da,ys,A,rfl,hys,tys,rfl⟩
    · rcases List.mem_cons.mp ha with z | z
      · rw [z]; exact hD0
      · exact s1.free (fr a z)
theorem z5F (hc : X.calm=true) (S : CompScope X.N X.env.scope.names N' 1 sc) (hn : n=X.N.length) (hi : PID X (.Name x px) iter fi)
    (hg : ∀ s H fp pins E,PG (z0L X N' sc s H fp pins E) (.Name x px) (z3u n)) (ht : ∀ s H fp pins E,y6w (z0L X N' sc s H fp pins E) ifs (tT X.K fc)) (he : ∀ s H fp pins E,PE (z0L X N' sc s H fp pins E) elt (tN X.K fe))
    (hs : ∀ x,foldedSetIterable iter X.env x=pure x:=by intro _; rfl) : PN X (.ListComp elt [⟨.Name x px,iter,ifs,0⟩] sc pos) (mkL (z1X fi fc fe)):=by
  intro pins s σ H Q I hq
  exact y2T hc S hi ⟨hg,ht,he⟩ hs pins s σ H Q I (y7f (by rw [hn,I.len]) hq)
end
end L2

/-! ### E10: arithmetic in short; a def that takes over its first argument; the law itself -/
namespace L2
open PySem PySem.Spec PyProof.Rows
section
variable {X : Cx} {a b : Expr} {pos : Pos} {f g : DE}
def z6j : D->D->Option D:=iop fun i j=>some (.int (i + j))
def y5w : D->D->Option D:=iop fun i j=>some (.int (i - j))
def mulI : D->D->Option D:=iop fun i j=>if CMul i j then some (.int (i * j)) else none
def z9M : D->D->Option D:=iop fun i j=>if CDiv i j then some (.int (i / j)) else none
def z4H : D->D->Option D:=iop fun i j=>if 0 < j then some (.int (i % j)) else none
def powI : D->D->Option D:=iop fun i j=>if CPow i j then some (.int (i ^ j.toNat)) else none
def ltI : D->D->Option D:=iop fun i j=>some (.bl (decide (i < j)))
def leI : D->D->Option D:=iop fun i j=>some (.bl (decide (i≤j)))
def gtI : D->D->Option D:=iop fun i j=>some (.bl (decide (j < i)))
def geI : D->D->Option D:=iop fun i j=>some (.bl (decide (j≤i)))
theorem z2E (ha : PD X a f) (hb : PD X b g) : PD X (.BinOp a .Add b pos) (d2 z6j f g):=y1g op_add y3a ha hb
theorem z6b (ha : PD X a f) (hb : PD X b g) : PD X (.BinOp a .Sub b pos) (d2 y5w f g):=y1g op_sub y3a ha hb
theorem y9c (ha : PD X a f) (hb : PD X b g) : PD X (.BinOp a .Mult b pos) (d2 mulI f g):=y1g op_mul z9J ha hb
theorem z8s (ha : PD X a f) (hb : PD X b g) : PD X (.BinOp a .FloorDiv b pos) (d2 z9M f g):=y1g op_fdiv z9J ha hb
theorem z3l (ha : PD X a f) (hb : PD X b g) : PD X (.BinOp a .Mod b pos) (d2 z4H f g):=y1g op_mod z9J ha hb
theorem y8z (ha : PD X a f) (hb : PD X b g) : PD X (.BinOp a .Pow b pos) (d2 powI f g):=y1g op_pow z9J ha hb
theorem pd_lt (ha : PD X a f) (hb : PD X b g) : PD X (.Compare a [.Lt] [b] pos) (d2 ltI f g):=y7J op_lt z3X ha hb (z5u _)
theorem y5c (hu : X.A.units + 64 < cLine) (ha : PD X a f) (hb : PD X b g) : PD X (.Compare a [.Eq] [b] pos) (d2 eqD f g):=y7J (y7S hu) o2_eq ha hb (z5u _)
theorem pt_lt (ha : PD X a f) (hb : PD X b g) : PTD X (.Compare a [.Lt] [b] pos) (z0P (d2 ltI f g)):=z5z op_lt z3X ha hb (z5u _)
theorem pt_gt (ha : PD X a f) (hb : PD X b g) : PTD X (.Compare a [.Gt] [b] pos) (z0P (d2 gtI f g)):=z5z op_gt z3X ha hb (z5u _)
theorem z6Y (hu : X.A.units + 64 < cLine) (ha : PD X a f) (hb : PD X b g) : PTD X (.Compare a [.Eq] [b] pos) (z0P (d2 eqD f g)):=z5z (y7S hu) o2_eq ha hb (z5u _)
theorem z7e (hu : X.A.units + 64 < cLine) (ha : PD X a f) (hb : PD X b g) : PTD X (.Compare a [.NotEq] [b] pos) (z0P (d2 neD f g)):=z5z (op_neD hu) o2_ne ha hb (z5u _)
theorem pt_nin (hu : X.A.units + 64 < cLine) (ha : PD X a f) (hb : PD X b g) (hm : behindInMarks .NotIn b=false:=by rfl) : PTD X (.Compare a [.NotIn] [b] pos) (z0P (d2 ninD f g)):=z5z (op_ninD hu) o2_nin ha hb hm
end

/-! ### a def that takes over a list -/
section
variable {P : Program} {w : World} {K : PySem.W.Frag} {mg : Str->Option Value} {base : Heap}
end
/-! x=f(x,..): the owned list of slot i goes and comes -/
section
variable {X : Cx} {H0 : Hp} {B0 : Addr->Prop} {fr : Bool} {RX : XR} {e : Expr} {es : List Expr} {pos p px px2 cp : Pos} {x fn : Str} {k : Nat} {F : List D->Option D} {fl : List DE}
def asgM (i : Nat) (F : List D->Option D) (fl : List DE) : SS->Option Out:=fun δ=>(z0j fl (z0o δ)).bind fun args=>if z1l args=true then (match δ[i]? with
  | some (some (.ow d0))=>(F (d0 :: args)).map fun d=>.nx ((z0x i δ).set i (some (.ow d)))
  | _=>none) else none
end

/-! ### the law: a list of at most 63 ints is handed in,True comes out -/
def spLaw (K : PySem.W.Frag) (F : List D->Option D) : Sp:=fun vs H Q _=>∃ (a : Addr) (ns : List Int),vs=[.ref a]∧SqF K H a (ns.map V.int)∧F [.scr ns]=some (.bl true)∧∀ H',Q (.bl true) H'
theorem y5X {K : PySem.W.Frag} {H : Hp} {a : Addr} {xs : List V} (hO : Only H) (h : SqL K H a xs) : SqF K H a xs:=by
  rcases h with (h | h) | h
  · rcases hO a with z | ⟨o,ys,z⟩ <;> (rw [h] at z; cases z)
  · exact .inl h
  · exact .inr h
end L2

/-! ### E11: a new list goes into an owned one -/
namespace L2
open PySem PySem.Spec PyProof.Rows
section
variable {X : Cx} {H0 : Hp} {B0 : Addr->Prop} {fr : Bool} {RX : XR} {e e2 : Expr} {pos ap cp : Pos} {x : Str} {px : Pos} {f g : DE}
def app0N (i : Nat) (f : DE) : SS->Option Out:=fun δ=>(f (z0o δ)).bind fun d=>(match δ[i]? with
  | some (some (.ow (.lst ds)))=>(z5W ds [d]).map fun ds'=>.nx ((z0x i δ).set i (some (.ow (.lst ds'))))
  | _=>none)
def ins0N (i : Nat) (f g : DE) : SS->Option Out:=fun δ=>(f (z0o δ)).bind fun k=>if k.imm=true then (g (z0o δ)).bind fun d=>(match δ[i]? with
  | some (some (.ow (.lst ds)))=>(y5x ds [k,d]).map fun ds'=>.nx ((z0x i δ).set i (some (.ow (.lst ds'))))
  | _=>none) else none
end
end L2

/-! ### E12: tuple.index -/
namespace L2
open PySem PySem.Spec PyProof.Rows
open PySem.MeetsSeq PySem.MeetsSeq2 PySem.MeetsSeq3 PySem.SeqRoads2 PySem.SeqAt
open PySem.AutoSeq1 (wpAny_loadPart')
theorem z5j {M : Model} {A : Around} {E : Value->Shared->Prop} {s : Shared} {β : Type} (f : Nat->β->Sem (ForInStep β)) (I : List Nat->β->Shared->Prop) (Q : β->Shared->Prop)
    (turn : ∀ x rest b s,I (x :: rest) b s->wpAny M A (f x b) (fun r s'=>match r with | .yield b'=>I rest b' s' | .done b'=>Q b' s') E s)
    (fin : ∀ b s,I [] b s->Q b s) (lo hi : Nat) (b : β) (h : I (List.range' lo (hi - lo)) b s) : wpAny M A (forIn ([lo:hi] : Std.Legacy.Range) b f) Q E s:=by
  rw [Std.Legacy.Range.forIn_eq_forIn_range']
  have hsz : ([lo:hi] : Std.Legacy.Range).size=hi - lo:=by simp [Std.Legacy.Range.size]
  show wpAny M A (forIn (List.range' lo ([lo:hi] : Std.Legacy.Range).size 1) b f) Q E s
  rw [hsz]
  exact wpAny_forIn_list f I Q turn fin _ b h
theorem z6w (l : Addr) (items : Array Value) (n : Nat) (dd : Option Addr) (sl : Array (Option Value)) (x : Value) (e : Value->Bool) (j : Nat) (hj : j < items.size) (hit : e items[j]=true) (hno : ∀ m (hm : m < items.size),m < j->e items[m]=false) :
    Meets (Builtin.«tuple.index» ⟨[.ref l,x],[]⟩)
      (fun A R s=>s.heap.get? l=some { cls:=.type "tuple",dict:=dd,data:=.seq items n,slots:=sl }∧(∀ y,y∈items->EqAt A.in1 s y x (e y))∧R (.ok (.ret (.int j s.toks))) { s with toks:=s.toks + 1 }):=
  .of_wp fun prog w A R s h=>by
    obtain ⟨hp,g,d,tk,os⟩:=s; obtain ⟨hl,he,h⟩:=h
    wp_walk using wpAny_loadPart' hl,z5j _ (fun rest b s'=>b.1=none∧s'=⟨hp,g,d,tk,os⟩∧∃ i,i≤j∧rest=List.range' i (items.size - i)) _
    case turn=>
      rintro y rest b s' ⟨hb,rfl,i,hi,hr⟩
      have e1 : items.size - i=(items.size - (i + 1)) + 1:=by omega
      rw [e1,List.range'_succ] at hr
      have h1 : i=y:=(List.cons.inj hr).1.symm
      have h2:=(List.cons.inj hr).2
      subst h1
      have hlt : i < items.size:=by omega
      rw [Array.getElem?_eq_getElem hlt]
      refine wpAny_bind (he _ (Array.getElem_mem hlt) prog w _ _ ?_)
      by_cases hij : i=j
      · subst hij
        rw [hit]
        wp_walk
        exact ⟨_,rfl,h⟩
      · rw [hno i hlt (by omega)]
        wp_walk
        exact ⟨rfl,rfl,i + 1,by omega,h2⟩
    case fin=>
      rintro ⟨b1,b2⟩ s' ⟨hb,rfl,i,hi,hr⟩
      have : (List.range' i (items.size - i)).length=0:=by rw [← hr]; rfl
      rw [List.length_range'] at this
      omega
    case h=>
      exact ⟨rfl,rfl,0,by omega,by simp⟩
section
variable {X : Cx}
theorem Inv.tupleO {pins : List (Addr × Obj)} {σ : St} {H : Hp} {s : Shared} {a : Addr} {xs : List V} (I : Inv X pins σ H s) (h : SqT X.K H a xs) : ∃ (its : List Value) (ob : Obj) (n : Nat),Vals xs its∧s.heap.get? a=some ob∧ob.cls = .type "tuple" ∧ ob.dict=none∧ob.data = .seq its.toArray n∧xs.length≤sizeLine:=by
  rcases h with h | ⟨o,its,n,hk,hc,hs,hz,r⟩
  · obtain ⟨z,its,r,ob,e,c,n,hd⟩:=h.ok I.hok
    exact ⟨its,ob,n,r,e,c.1,c.2,hd,z⟩
  · refine ⟨its.toList,o,n,r,I.kIn a o hk,hc.1,hc.2,by simpa using hs,?_⟩
    have e:=r.length
    simp only [Array.length_toList] at e
    omega
def tTM (K : PySem.W.Frag) (r : V->List V->Hp->VK->Prop) (to : TE) (t : TA) : TE:=fun σ H Q=>to σ H fun x H1=>(∃ a xs,x = .ref a∧SqT K H1 a xs)∧t σ H1 fun xs H2=>r x xs H2 Q
variable {o e : Expr} {es : List Expr} {to : TE} {t : TA} {name : Str} {apos cpos : Pos} {id : String} {r : V->List V->Hp->VK->Prop}
theorem pe_tm (slot : Slot "tuple" name id) (hty : typeOf (.builtin id)=pure (.type "method_descriptor")) (hm : MtR X id r) (ho : PE X o to) (ha : PA X (e :: es) t)
    (hbase : attributeBase o name X.env (eval o X.env)=eval o X.env:=by rfl)
    (hfew : ((backTo cpos (starEach (e :: es) X.env)).all (fun x=>!x.1) && (backToKw cpos (keywordEach [] X.env)).all (fun x=>x.1.isSome)
      && decide ((e :: es).length + ([] : List Keyword).length + (if ([] : List Keyword).isEmpty then 0 else 1) < 30))=true:=by rfl)
    (hline : (apos.endLine == cpos.line)=true:=by rfl) (hs : starEach (e :: es) X.env=(false,eval e X.env) :: starEach es X.env:=by rfl) (hplain : (backTo cpos (starEach es X.env)).any (·.1)=false:=by rfl) :
    PE X (.Call (.Attribute o name apos) (e :: es) [] cpos) (tTM X.K r to t):=by
  intro pins s σ H Q I h
  refine wpAny_Call_method_late hbase hfew hline rfl (thn (ho pins s σ H _ I h) fun v s1 ⟨x,H1,I1,r1,⟨a,ys,ex,ty⟩,q1⟩=>?_)
  subst ex
  cases r1
  obtain ⟨its,ob,n,_,e1,c1,d1,_⟩:=I1.tupleO ty
  refine ⟨"tuple",id,PySem.F.plainAttrs_tuple,slot,hty,⟨ob,e1,c1⟩,fun a e=>(by cases e; exact ⟨ob,e1,d1⟩),?_⟩
  have hA:=ha cpos pins s1 σ H1 _ I1 q1
  rw [hs] at hA ⊢
  refine Calls.callWith_builtin (by show (false || (backTo cpos (starEach es X.env)).any (·.1))=false; rw [hplain] <;> rfl) (Calls.evalArgs_plain ?_)
  exact thn hA fun us s2 ⟨vs,H2,I2,r2,q2⟩=>hm pins s2 σ H2 (.ref a) vs (.ref a) us Q I2 rfl r2 q2
/-- the place of an int in a tuple of ints -/
def rTIx (K : PySem.W.Frag) : V->List V->Hp->VK->Prop:=fun x vs H Q=>∃ (a : Addr) (ns : List Int) (i : Int) (j : Nat),x = .ref a∧vs=[.int i]∧SqT K H a (ns.map V.int)∧ns.findIdx? (fun n=>n == i)=some j∧Q (.int (j : Int)) H
theorem z8I : ∀ {ns : List Int} {its : List Value},Vals (ns.map V.int) its->∀ (k : Nat) (h : k < its.length),∃ t,∃ h2 : k < ns.length,its[k] = .int ns[k] t
  | [],_,.nil,_,h=>by simp at h
  | n :: ns,_,.cons r t,k,h=>by
    obtain ⟨u,rfl⟩:=r
    cases k with
    | zero=>exact ⟨u,by simp,rfl⟩
    | succ k=>
      obtain ⟨w,h2,e⟩:=z8I t k (by simpa using h)
      exact ⟨w,by simpa using h2,by simpa using e⟩
def isI (i : Int) : Value->Bool
  | .int k _=>k == i
  | _=>false
theorem y4h : MtR X "tuple.index" (rTIx X.K):=by
  intro pins s σ H x vs v us Q I rx rv h
  obtain ⟨a,ns,i,j,rfl,rfl,hq,hj,q⟩:=h
  cases rx
  obtain ⟨u,rfl,ru⟩:=rv.one
  obtain ⟨ut,rfl⟩:=ru
  obtain ⟨its,⟨cls,dct,dat,sl⟩,n,r,e,c,d,hd,_⟩:=I.tupleO hq
  subst c; subst hd
  obtain ⟨hjl,hji,hjm⟩:=List.findIdx?_eq_some_iff_getElem.mp hj
  have hl : ns.length=its.length:=by have:=r.length; simpa using this
  have hj2 : j < its.length:=by omega
  refine call_meets F.slot_tuple_index ⟨_,e,rfl⟩ F.entry_tuple_index (F.args_tuple_index_2 _ _) (z6w a its.toArray n dct sl (.int i ut) (isI i) j (by simpa using hj2) ?_ ?_) ⟨e,?_,?_⟩
  · obtain ⟨t,h2,e2⟩:=z8I r j hj2
    simp [e2,isI]
    simpa using hji
  · intro m hm hmj
    obtain ⟨t,h2,e2⟩:=z8I r m (by omega)
    have:=hjm m hmj
    simp [e2,isI]
    simpa using this
  · intro y hy
    obtain ⟨k,hk,rfl⟩:=List.getElem_of_mem (show y∈its by simpa using hy)
    obtain ⟨t,h2,e2⟩:=z8I r k hk
    rw [e2]
    exact SeqAt.EqAt.int_int _ _ _ _
  · exact ⟨.int (j : Int),H,I.tok _,⟨_,rfl⟩,q⟩
theorem z4c : ∀ {ds : List D} {ns : List Int},z1n ds=some ns->ds=ns.map D.int
  | [],ns,h=>by cases h; rfl
  | .int i :: r,ns,h=>by
    unfold z1n at h
    cases e : z1n r with
    | none=>rw [e] at h; cases h
    | some ms=>rw [e] at h; cases h; rw [List.map_cons,z4c e]
  | .non :: _,_,h=>by cases h
  | .bl _ :: _,_,h=>by cases h
  | .str _ :: _,_,h=>by cases h
  | .lst _ :: _,_,h=>by cases h
  | .tup _ :: _,_,h=>by cases h
  | .scr _ :: _,_,h=>by cases h
  | .dct _ _ :: _,_,h=>by cases h
  | .exc _ :: _,_,h=>by cases h
theorem z3Y {K : PySem.W.Frag} {H : Hp} {B : Addr->Prop} : ∀ {ns : List Int} {xs : List V},Reps K H B (ns.map D.int) xs->xs=ns.map V.int
  | [],_,h=>by unfold Reps at h; exact h
  | n :: ns,_,h=>by
    rw [List.map_cons] at h
    unfold Reps at h
    obtain ⟨x,r,rfl,h1,h2⟩:=h
    unfold Rep at h1
    rw [h1,z3Y h2]
    rfl
def tixF : D->D->Option D
  | .tup ds,.int i=>(z1n ds).bind fun ns=>(ns.findIdx? (fun n=>n == i)).map fun j=>.int (j : Int)
  | _,_=>none
theorem z8f {f g : DE} (ho : PD X o f) (he : PD X e g) (hbase : attributeBase o "index" X.env (eval o X.env)=eval o X.env:=by rfl)
    (hfew : ((backTo cpos (starEach [e] X.env)).all (fun x=>!x.1) && (backToKw cpos (keywordEach [] X.env)).all (fun x=>x.1.isSome) && decide ([e].length + ([] : List Keyword).length + (if ([] : List Keyword).isEmpty then 0 else 1) < 30))=true:=by rfl)
    (hline : (apos.endLine == cpos.line)=true:=by rfl) (hs : starEach [e] X.env=(false,eval e X.env) :: starEach [] X.env:=by rfl) :
    PD X (.Call (.Attribute o "index" apos) [e] [] cpos) (d2 tixF f g):=
  (pe_tm PySem.F.slot_tuple_index PySem.F.type_tuple_index y4h ho (z1o he pa_nil hs) hbase hfew hline hs rfl).imp fun σ H Q ⟨B,δ,d,hB,S,q,k⟩=>by
    obtain ⟨x,y,e1,e2,e3⟩:=z4Z q
    unfold tixF at e3
    split at e3
    case h_2=>cases e3
    case h_1 ds i=>
    cases e4 : z1n ds with
    | none=>rw [e4] at e3; cases e3
    | some ns=>
    rw [e4,Option.bind_some] at e3
    cases e5 : ns.findIdx? (fun n=>n == i) with
    | none=>rw [e5] at e3; cases e3
    | some j=>
    rw [e5] at e3
    cases e3
    have eds:=z4c e4
    subst eds
    refine ⟨B,δ,_,hB,S,e1,fun v H1 s1 r1=>?_⟩
    unfold Rep at r1
    obtain ⟨a,xs,rfl,hq,rs⟩:=r1
    have ex:=z3Y rs
    subst ex
    refine ⟨⟨a,_,rfl,hq⟩,B,δ,_,hB.mono s1,S.mono s1,e2,fun v2 H2 s2 r2=>?_⟩
    unfold Rep at r2
    subst r2
    exact ⟨a,ns,i,j,rfl,rfl,s2.tup hq,e5,k _ H2 (s1.trans s2) (by unfold Rep; rfl)⟩
end
end L2

/-! ### E13: tuple(range(..)),list(range(..)),int(..) -/
namespace L2
open PySem PySem.Spec PyProof.Rows
open PySem.AutoSeq1 (wpAny_loadPart')
section
variable {prog : Program} {w : World} {A : Around} {E : Value->Shared->Prop} {s : Shared}
end
/-! range(..) as a value -/
def tRngV1 (ta : TA) : TE:=fun σ H Q=>ta σ H fun vs H1=>∃ j : Int,vs=[.int j]∧∀ p,H1 p=none->Q (.ref p) (upd H1 p (.rng 0 j))
section
variable {X : Cx}
theorem y5h {a : Expr} {ta : TA} {p pos : Pos} (hg : Gl X "range") (hm : X.mg "range" = none) (ha : PA X [a] ta) (hs : starEach [a] X.env=[(false,eval a X.env)]:=by rfl) : PE X (.Call (.Name "range" p) [a] [] pos) (tRngV1 ta):=by
  intro pins s σ H Q I h
  refine wpAny_Call_Name_kw (z4Y I hg hm boot_range (PyProof.Rows.callWith_type1 (thn (ha pos pins s σ H _ I h) fun us s1 ⟨vs,H1,I1,r1,q1⟩=>?_) hs rfl))
  obtain ⟨j,e,q⟩:=q1
  subst e
  cases r1 with
  | cons r rr=>
    cases rr
    obtain ⟨t,rfl⟩:=r
    refine call_range_1 ⟨.ref s1.heap.objs.size,_,I1.laid (fun b o e=>Heap.get?_push_of_some _ e) (Nat.le_refl _) ?_,rfl,q _ (I1.hok.fresh (Nat.le_refl _))⟩
    exact ⟨_,_,_,Heap.get?_push_size _ rfl⟩
def y8U (lo : Int) (n : Nat) : List V:=(List.range n).map fun i=>.int (lo + (i : Nat))
theorem y0R {lo : Int} : ∀ {n : Nat} {acc : Array Value},ItemsOf (fun i v=>∃ t,v=Value.int (lo + i * 1) t) acc n->Vals (y8U lo n) acc.toList:=by
  intro n acc h
  obtain ⟨hs,hv⟩:=h
  have key : ∀ (vs : List Value) (k : Nat),(∀ j v,vs[j]? = some v->∃ t,v=Value.int (lo + ((k + j : Nat) : Int)) t)->Vals ((List.range' k vs.length).map fun i=>V.int (lo + (i : Nat))) vs:=by
    intro vs
    induction vs with
    | nil=>intro k _; exact .nil
    | cons x r ih=>
      intro k hx
      rw [List.length_cons,List.range'_succ,List.map_cons]
      obtain ⟨t,e⟩:=hx 0 x rfl
      refine .cons ⟨t,by simpa using e⟩ (ih (k + 1) fun j v hj=>?_)
      obtain ⟨t,e⟩:=hx (j + 1) v (by simpa using hj)
      exact ⟨t,by rw [e]; congr 1 <;> omega⟩
  have:=key acc.toList 0 fun j v hj=>by
    obtain ⟨t,e⟩:=hv j v (by simpa using hj)
    exact ⟨t,by rw [e]; congr 1 <;> omega⟩
  rw [← List.range_eq_range',Array.length_toList,hs] at this
  exact this
theorem y6S {lo : Int} {n : Nat} : (y8U lo n).length=n:=by simp [y8U]
theorem y1d (hc : X.calm=true) : CallR X (.type "list") (fun xs H Q=>∃ (p : Addr) (lo hi : Int),xs=[.ref p]∧H p=some (.rng lo hi)∧(-(2 ^ 62)≤lo∧lo < 2 ^ 62∧-(2 ^ 62)≤hi∧hi < 2 ^ 62)∧(hi - lo).toNat≤sizeLine∧∀ l,H l=none->Q (.ref l) (upd H l (.lst (y8U lo (hi - lo).toNat)))):=by
  intro pins s σ H xs us Q I r h
  obtain ⟨p,lo,hi,rfl,hp,hb,hl,q⟩:=h
  obtain ⟨u,rfl,rx⟩:=z5o r
  cases rx
  obtain ⟨t,u,v,e⟩:=I.hok p _ hp
  refine call_list_range (I.ok.hd hc) e (small_one hb.1 hb.2.1 hb.2.2.1 hb.2.2.2) (n:=(hi - lo).toNat) (by rw [rangeSize_one]; split <;> omega) (by rw [sizeLine_eq] at hl; omega) fun h' tk acc' c' kp e2 it=>?_
  have I2 : Inv X pins σ (upd H s.heap.objs.size (.lst (y8U lo (hi - lo).toNat))) { s with heap:=h',toks:=tk }:=
    I.laid kp (Nat.le_refl _) (show ObjOk X.prog X.w _ h' _ (.lst (y8U lo (hi - lo).toNat)) from ⟨by rw [y6S]; exact hl,acc'.toList,c',y0R it,by simpa using e2⟩)
  exact ⟨.ref s.heap.objs.size,_,I2,rfl,q _ (I.hok.fresh (Nat.le_refl _))⟩
/-! as trees -/
def z6l (g : DS->Option (List D)) : DS->Option (List D):=fun δ=>(g δ).bind fun ds=>if ds.length≤sizeLine then some ds else none
theorem y5L {K : PySem.W.Frag} {H : Hp} {B : Addr->Prop} {lo : Int} {n : Nat} : Reps K H B (z3L lo n) (y8U lo n):=by
  unfold z3L y8U
  generalize List.range n=l
  induction l with
  | nil=>exact .nil
  | cons k r ih=>exact .cons (by unfold Rep; rfl) ih
theorem y5j {f : DE} {δ : DS} {ds : List D} (h : z5N f δ=some ds) : ∃ j : Int,f δ=some (.int j)∧-(2 ^ 62)≤j∧j < 2 ^ 62∧ds=z3L 0 j.toNat:=by
  unfold z5N at h
  split at h
  · rename_i j e
    split at h
    · rename_i hb
      cases h
      exact ⟨j,e,hb.1,hb.2,rfl⟩
    · cases h
  · cases h
theorem y0S {g : DS->Option (List D)} {δ : DS} {ds : List D} (h : z6l g δ=some ds) : g δ=some ds∧ds.length≤sizeLine:=by
  unfold z6l at h
  cases e : g δ with
  | none=>rw [e] at h; cases h
  | some es=>
    rw [e] at h
    have h : (if es.length≤sizeLine then some es else none)=some ds:=h
    split at h
    · cases h; exact ⟨rfl,by assumption⟩
    · cases h
theorem y5D {lo : Int} {n : Nat} : (z3L lo n).length=n:=by simp [z3L]
variable {a b : Expr} {f g : DE} {p p2 pos pos2 : Pos}
theorem y1E (hc : X.calm=true) (hg : Gl X "list") (hm : X.mg "list" = none) (hg2 : Gl X "range") (hm2 : X.mg "range" = none) (h : PD X a f) (he2 : starEach [a] X.env=[(false,eval a X.env)]:=by rfl)
    (he : starEach [.Call (.Name "range" p2) [a] [] pos2] X.env=[(false,eval (.Call (.Name "range" p2) [a] [] pos2) X.env)]:=by rfl) : PF X (.Call (.Name "list" p) [.Call (.Name "range" p2) [a] [] pos2] [] pos) (z6l (z5N f)):=
  (z4X (y1d hc) hg hm PyProof.Rows.Boot.«list» (z1o (y5h hg2 hm2 (z1o h pa_nil he2) he2) pa_nil he) (by decide) (by decide) he rfl).imp fun σ H Q ⟨B,δ,ds,hB,S,e1,k⟩=>by
    obtain ⟨e2,hl⟩:=y0S e1
    obtain ⟨j,e3,h1,h2,rfl⟩:=y5j e2
    rw [y5D] at hl
    refine ⟨B,δ,_,hB,S,e3,fun v H1 s1 r1=>?_⟩
    unfold Rep at r1
    subst r1
    refine ⟨j,rfl,fun r hr=>⟨r,0,j,rfl,z0m,⟨by omega,by omega,h1,h2⟩,by simpa using hl,fun l hl'=>?_⟩⟩
    refine k l _ _ ((s1.trans (z0p hr)).trans (z0p hl')) (s1.free ((z0p (H:=H1) hr).free hl')) z0m ?_
    rw [Int.sub_zero]
    exact y5L
/-- int(x) -/
def z7E : List D->Option D
  | [.int i]=>some (.int i)
  | [.bl k]=>some (.int (if k then 1 else 0))
  | _=>none
theorem oa_int {K : PySem.W.Frag} : OpA K (fun xs H Q=>(∃ i,xs=[.int i]∧Q (.int i) H)∨∃ k,xs=[.bl k]∧Q (.int (if k then 1 else 0)) H) z7E:=by
  intro H B ds d vs Q hB hr q k
  unfold z7E at q
  split at q
  · cases q
    obtain ⟨v,rfl,r⟩:=z2Q hr
    unfold Rep at r
    subst r
    exact .inl ⟨_,rfl,k _ H (.refl H) (by unfold Rep; rfl)⟩
  · cases q
    obtain ⟨v,rfl,r⟩:=z2Q hr
    unfold Rep at r
    subst r
    exact .inr ⟨_,rfl,k _ H (.refl H) (by unfold Rep; rfl)⟩
  · cases q
theorem z6R {e : Expr} (hg : Gl X "int") (hm : X.mg "int" = none) (h : PD X e f) (he : starEach [e] X.env=[(false,eval e X.env)]:=by rfl) : PD X (.Call (.Name "int" p) [e] [] pos) (z0k z7E [f]):=
  z9z y3G oa_int hg hm PyProof.Rows.Boot.«int» (z0a h z0c he) (by decide) (by decide) he rfl
end
end L2

/-! ### E14: enumerate(xs),its pairs taken apart at once -/
namespace L2
open PySem PySem.Spec PyProof.Rows
section
variable {X : Cx} {pins : List (Addr × Obj)} {σ : St} {H : Hp} {s : Shared} {h' : Heap}
theorem Inv.turnedL {t' : Nat} {fp : List Addr} (I : Inv X pins σ H s) (k : ∀ b o,b ∉ fp->s.heap.get? b=some o->h'.get? b=some o) (hf : ∀ b∈fp,z8N X pins H b) : Inv X pins σ H { s with heap:=h',toks:=t' }:=by
  have nit : ∀ b u,H b=some u->b ∉ fp:=fun b u e z=>by rw [(hf b z).1] at e; cases e
  have nL : X.env.locals ∉ fp:=fun z=>(hf _ z).2.1 rfl
  refine I.step (g':=s.gens) (d':=s.drawn) (ch:=fp) (fun b hb=>?_) (fun b o _ _ hc e _=>k b o hc e) (fun b o _ _ hc e _=>⟨o.slots,k b o hc e⟩) (fun _ _ _ _ n=>n)
    (fun b o hc e=>⟨o,k b o hc e⟩) (fun _ _ e=>e) (fun _ _ _ e=>e) (fun b ps e=>⟨#[],by rw [e]; simp⟩) (fun m hm=>?_) (fun b u e=>?_) I.bare
  · obtain ⟨f0,f1,f2,f3,f4,f5⟩:=hf b hb
    exact ⟨f3,f1,f4,f5⟩
  · obtain ⟨o,es,ep,ho,r⟩:=hm
    exact ⟨o,es,ep,k _ o nL ho,r⟩
  · refine (I.hok b u e).stay (fun c v hc q=>k c v ?_ q) (fun _ q=>q) fun _ _ q=>q
    rcases hc with z | z
    · rw [z]; exact nit b u e
    · exact nit c _ z
/-- (0,first),(1,second),.. of the list at a -/
def Ite (K : PySem.W.Frag) (a : Addr) : It:=
  ⟨fun i H=>∃ xs x,SqL K H a xs∧xs[i]? = some x,fun i H v H'=>∃ p x,H p=none∧v = .ref p∧H'=upd H p (.tup [.int (i : Nat),x])∧∀ xs,SqL K H a xs->xs[i]? = some x,fun i H=>∃ xs,SqL K H a xs∧xs.length≤i⟩
theorem y1t {P : Program} {w : World} {K : PySem.W.Frag} {elts : List Expr} {x1} {tp : Pos} (a e it : Addr) (hne : e≠it) :
    Turn P w K (.Tuple elts x1 tp) (Ite K a) [e,it] e (fun i h=>(∃ old,IsEnum h e it ((i : Nat) : Int) old)∧h.IsListIter it a i) where
  mem:=by simp
  obj:=fun i h st b hb=>by
    obtain ⟨⟨old,he⟩,o,eo,c,d⟩:=st
    rcases List.mem_cons.mp hb with z | z
    · subst z
      exact ⟨_,he,fun v z=>by cases z⟩
    · have z : b=it:=by simpa using z
      subst z
      exact ⟨o,eo,fun v z=>by rw [d] at z; cases z⟩
  keep:=fun i h h' st k=>by
    obtain ⟨⟨old,he⟩,hi⟩:=st
    exact ⟨⟨old,k e (by simp) _ he⟩,hi.at fun o q=>k it (by simp) o q⟩
  item:=by
    intro X hP hw hK hc i pins s σ H E I hf st hg
    subst hP hw hK
    obtain ⟨xs,x,hq,hx⟩:=hg
    obtain ⟨its,rv,p,hz⟩:=I.list hq
    obtain ⟨u,hu,ru⟩:=rv.get hx
    obtain ⟨⟨old,he⟩,hi⟩:=st
    refine wpAny_pyNext_enum_item he hi p.isList (x:=u) (by simpa using hu) hne fun h1 heo hi1 ht1 hz1 hk1=>⟨_,rfl,?_⟩
    refine wpAny_letOwnedTupleGo_enum heo fun h2 he2 hs2=>?_
    have hs2 : Heap.SameBut e h1 h2:=hs2
    have elt : e < s.heap.objs.size:=Heap.lt_size he
    obtain ⟨oi,eoi,_⟩:=id hi
    have ilt : it < s.heap.objs.size:=Heap.lt_size eoi
    have hp : H s.heap.objs.size=none:=I.hok.fresh (Nat.le_refl _)
    have I1 : Inv X pins σ (upd H s.heap.objs.size (.tup [.int (i : Nat),x])) { s with heap:=s.heap.push { cls:=.type "tuple",data:=.seq #[.int (i : Nat) s.toks,u] },toks:=s.toks + 1 }:=
      I.laid (fun b o q=>Heap.get?_push_of_some _ q) (Nat.le_refl _) (show ObjOk X.prog X.w _ _ _ (.tup [.int (i : Nat),x]) from ⟨by show 2≤sizeLine; rw [sizeLine_eq]; decide,[.int (i : Nat) s.toks,u],.cons ⟨_,rfl⟩ (.cons ru .nil),TupN.new _ _⟩)
    have hf1 : ∀ b∈[e,it],z8N X pins (upd H s.heap.objs.size (.tup [.int (i : Nat),x])) b:=fun b hb=>by
      obtain ⟨f0,f⟩:=hf b hb
      refine ⟨?_,f⟩
      have : b≠s.heap.objs.size:=by
        rcases List.mem_cons.mp hb with z | z
        · rw [z]; exact Nat.ne_of_lt elt
        · have z : b=it:=by simpa using z
          rw [z]; exact Nat.ne_of_lt ilt
      rw [z0s this]
      exact f0
    have kk : ∀ b o,b ∉ [e,it]->(s.heap.push { cls:=.type "tuple",data:=.seq #[.int (i : Nat) s.toks,u] }).get? b=some o->h2.get? b=some o:=by
      intro b o hb q
      have hbe : b≠e:=fun z=>hb (by simp [z])
      have hbi : b≠it:=fun z=>hb (by simp [z])
      rw [hs2.2 b hbe]
      by_cases hbs : b=s.heap.objs.size
      · subst hbs
        rw [ht1]
        have : (s.heap.push { cls:=.type "tuple",data:=.seq #[.int (i : Nat) s.toks,u] }).get? s.heap.objs.size=some { cls:=.type "tuple",data:=.seq #[.int (i : Nat) s.toks,u] }:=Heap.get?_push_size _ rfl
        exact this.symm.trans q
      · have q' : s.heap.get? b=some o:=(Heap.get?_push_ne s.heap _ _ hbs).symm.trans q
        exact hk1 b o hbe hbi q'
    have I2 : Inv X pins σ (upd H s.heap.objs.size (.tup [.int (i : Nat),x])) { s with heap:=h2,toks:=s.toks + 1 }:=Inv.turnedL (s:={ s with heap:=s.heap.push { cls:=.type "tuple",data:=.seq #[.int (i : Nat) s.toks,u] },toks:=s.toks + 1 }) (h':=h2) (t':=s.toks + 1) (fp:=[e,it]) I1 kk hf1
    refine ⟨.ref s.heap.objs.size,_,I2,rfl,⟨_,x,hp,rfl,rfl,fun ys hy=>by rw [I.list_inj hy hq]; exact hx⟩,⟨⟨u,?_⟩,?_⟩,fun b hb=>(hf1 b hb).1⟩
    · have : (((i + 1 : Nat) : Int))=((i : Int) + 1):=by omega
      rw [this]
      exact he2
    · exact hi1.at fun o q=>(hs2.2 it (Ne.symm hne)).trans q
  done:=by
    intro X hP hw hK hc i pins s σ H E I hf st hg
    subst hP hw hK
    obtain ⟨xs,hq,hx⟩:=hg
    obtain ⟨its,rv,p,hz⟩:=I.list hq
    obtain ⟨⟨old,he⟩,hi⟩:=st
    have hl:=rv.length
    exact wpAny_pyNext_enum_end (I.ok.hd hc) he hi p.isList (by simp; omega) fun h' eb=>⟨rfl,I.turnedL (t':=s.toks) (fp:=[e,it]) (fun b o hb q=>eb b o (fun z=>hb (by simp [z])) q) hf⟩
  self:=fun _ _ _ _ _ st h=>let ⟨⟨_,he⟩,_⟩:=st; wpAny_pyIter_enum he h
def iEnum (K : PySem.W.Frag) (tl : TE) : TI:=fun σ H R=>tl σ H fun x H1=>∃ a,[x]=[V.ref a]∧(∃ xs,SqL K H1 a xs)∧R (Ite K a) H1
theorem pi_enum {elts : List Expr} {x1} {tp p pos : Pos} {l : Expr} {tl : TE} (hg : Gl X "enumerate") (hm : X.mg "enumerate" = none) (hl : PE X l tl) (hs : starEach [l] X.env=[(false,eval l X.env)]:=by rfl) :
    PI X (.Tuple elts x1 tp) (.Call (.Name "enumerate" p) [l] [] pos) (iEnum X.K tl):=by
  intro pins s σ H R I h
  have hA : PA X [l] (fun σ H Q=>tl σ H fun x H1=>Q [x] H1):=(z1o hl pa_nil (by rw [hs]; rfl)).imp fun σ H Q q=>q
  refine wpAny_Call_Name_kw (z4Y I hg hm boot_enumerate (PyProof.Rows.callWith_type1 (thn (hA pos pins s σ H (fun vs H1=>∃ a,vs=[V.ref a]∧(∃ xs,SqL X.K H1 a xs)∧R (Ite X.K a) H1) I h) fun us s1 ⟨vs,H1,I1,r1,q1⟩=>?_) hs rfl))
  obtain ⟨a,rfl,⟨xs,hq⟩,q⟩:=q1
  obtain ⟨u,rfl,ru⟩:=r1.one
  cases ru
  obtain ⟨its,rv,pl,hz⟩:=I1.list hq
  refine call_enumerate_list pl.isList fun h1 he hi hsz kp=>?_
  refine wpAny_pyIter_enum he ?_
  have I2 : Inv X pins σ H1 { s1 with heap:=h1 }:=I1.kept (t':=s1.toks) kp
  refine ⟨s1.heap.objs.size + 1,[s1.heap.objs.size + 1,s1.heap.objs.size],_,_,H1,rfl,I2,y1t a _ _ (Nat.succ_ne_self _),⟨⟨_,he⟩,hi⟩,fun b hb=>?_,q⟩
  have hb' : s1.heap.objs.size≤b:=by
    rcases List.mem_cons.mp hb with z | z
    · rw [z]; exact Nat.le_succ _
    · have z : b=s1.heap.objs.size:=by simpa using z
      rw [z]; exact Nat.le_refl _
  exact I1.fpOk hb' (I1.hok.fresh hb')
end
/-! as trees -/
def z1J (k : Nat) : List D->List D
  | []=>[]
  | d :: r=>.tup [.int (k : Nat),d] :: z1J (k + 1) r
theorem y0n : ∀ {ds : List D} {k i : Nat},(z1J k ds)[i]? = (ds[i]?).map fun d=>.tup [.int ((k + i : Nat) : Int),d]
  | [],_,_=>by simp [z1J]
  | d :: r,k,0=>by simp [z1J]
  | d :: r,k,i + 1=>by
    show (z1J (k + 1) r)[i]? = (r[i]?).map _
    rw [y0n]
    congr 1
    funext d
    congr 3
    omega
theorem z6G : ∀ {ds : List D} {k : Nat},(z1J k ds).length=ds.length
  | [],_=>rfl
  | d :: r,k=>by show (z1J (k + 1) r).length + 1=r.length + 1; rw [z6G]
theorem z9u {K : PySem.W.Frag} {H : Hp} {B : Addr->Prop} {a : Addr} {xs : List V} {ds : List D} (hs : ∀ H',Keep K B H H'->SqL K H' a xs) (r : Reps K H B ds xs) : ItD K (Ite K a) H B (z1J 0 ds):=by
  have hl:=r.length
  refine ⟨fun i H' kp hi=>?_,fun i H' kp hi=>?_,fun i H' v H2 kp hy=>?_⟩
  · rw [z6G,hl] at hi
    exact ⟨xs,xs[i],hs H' kp,List.getElem?_eq_getElem hi⟩
  · rw [z6G,hl] at hi
    exact ⟨xs,hs H' kp,hi⟩
  · obtain ⟨p,x,hp,rfl,rfl,hx⟩:=hy
    have hx:=hx xs (hs H' kp)
    obtain ⟨d,e,rd⟩:=(Reps.keep kp ds r).get' hx
    refine ⟨z0p hp,.tup [.int (i : Nat),d],fun _=>by rw [y0n,e]; simp,?_⟩
    unfold Rep
    exact ⟨p,_,rfl,SqT.of z0m,.cons (by unfold Rep; rfl) (.one (rd.mono (z0p hp)))⟩
def y6n : D->Option (List D)
  | .lst ds=>some (z1J 0 ds)
  | .scr ns=>some (z1J 0 (ns.map .int))
  | _=>none
def y6O (f : DE) : DS->Option (List D):=fun δ=>(f δ).bind y6n
section
variable {X : Cx}
theorem y6G {elts : List Expr} {x1} {tp p pos : Pos} {l : Expr} {f : DE} (hg : Gl X "enumerate") (hm : X.mg "enumerate" = none) (h : PD X l f) (hs : starEach [l] X.env=[(false,eval l X.env)]:=by rfl) :
    PID X (.Tuple elts x1 tp) (.Call (.Name "enumerate" p) [l] [] pos) (y6O f):=(pi_enum hg hm h hs).imp fun σ H R ⟨B,δ,ds,hB,S,q,k⟩=>by
  unfold y6O at q
  cases e : f δ with
  | none=>rw [e] at q; cases q
  | some d=>
    rw [e] at q
    have q' : y6n d=some ds:=q
    refine ⟨B,δ,d,hB,S,e,fun v H1 s1 r1=>?_⟩
    unfold y6n at q'
    split at q'
    · cases q'
      unfold Rep at r1
      obtain ⟨a,xs,rfl,n,h,r⟩:=r1
      refine ⟨a,rfl,⟨xs,SqL.of h⟩,k _ H1 s1 fun C hC=>?_⟩
      have na : ¬ (B a∨C a):=fun z=>z.elim n fun z=>by rw [hC a z] at h; cases h
      exact z9u (xs:=xs) (fun H' kp=>SqL.of (kp.sl a xs na h)) (Reps.wide hC _ r)
    · cases q'
      unfold Rep at r1
      obtain ⟨a,rfl,h⟩:=r1
      exact ⟨a,rfl,⟨_,h.sq⟩,k _ H1 s1 fun C hC=>z9u (fun H' kp=>(kp.sf a _ h).sq) (z2h _)⟩
    · cases q'
/-! [elt for a,b in iter if c] -/
def two (h : D->D->Option (Option D)) : D->Option (Option D)
  | .tup [a,b]=>h a b
  | _=>none
def y0M (fc : DS->Option Bool) (fe : DE) (δ : DS) : D->D->Option (Option D):=fun a b=>(fc (δ ++ [some a,some b])).bind fun k=>if k=true then (fe (δ ++ [some a,some b])).map some else some none
def z6g (fi : DS->Option (List D)) (fc : DS->Option Bool) (fe : DE) : DS->Option (List D):=fun δ=>(fi δ).bind fun xs=>if xs.length≤sizeLine then z2g (two (y0M fc fe δ)) xs else none
theorem y6H {h : D->D->Option (Option D)} {d : D} {o : Option D} (e : two h d=some o) : ∃ a b,d = .tup [a,b]∧h a b=some o:=by
  unfold two at e
  split at e
  · exact ⟨_,_,rfl,e⟩
  · cases e
theorem z7w {v1 v2 w1 w2 : Option V} : ∀ {σ : St},((σ ++ [w1,w2]).set σ.length v1).set (σ.length + 1) v2=σ ++ [v1,v2]
  | []=>rfl
  | x :: r=>congrArg (x :: ·) (z7w (σ:=r))
theorem RepS.snoc2 {K : PySem.W.Frag} {H : Hp} {B : Addr->Prop} {σ : St} {δ : DS} {d e : D} {v w : V} (S : RepS K H B σ δ) (r : Rep K H B d v) (r' : Rep K H B e w) : RepS K H B (σ ++ [some v,some w]) (δ ++ [some d,some e]):=by
  have:=(S.snoc r).snoc r'
  rw [List.append_assoc,List.append_assoc] at this
  exact this
variable {N' : List Str} {sc : Scope} {iter elt : Expr} {ifs : List Expr} {n : Nat} {x y : Str} {px py tp pos : Pos} {x1 : Nat} {fi : DS->Option (List D)} {fc : DS->Option Bool} {fe : DE}
def gTwo (K : PySem.W.Frag) (n : Nat) : TG:=gTup K 2 (gCons (z3u n) (gCons (z3u (n + 1)) gNil))
theorem y5n {σ : St} {H : Hp} {Q : VK} (hσ : σ.length=n) (hq : tF X.K (z6g fi fc fe) σ H Q) : y4a (tI X.K fi) (gTwo X.K n) (tT X.K fc) (tD X.K fe) 2 σ H Q:=by
  obtain ⟨B,δ,ds,hB,Sδ,q,k⟩:=hq
  unfold z6g at q
  cases e1 : fi δ with
  | none=>rw [e1] at q; cases q
  | some xs=>
  rw [e1] at q
  have q1 : (if xs.length≤sizeLine then z2g (two (y0M fc fe δ)) xs else none)=some ds:=q
  split at q1
  case isFalse=>cases q1
  case isTrue hsz=>
  refine ⟨B,δ,xs,hB,Sδ,e1,fun J H1 s1 itw=>fun Da hD=>?_⟩
  have hD0 : H Da=none:=s1.free hD
  have it:=itw (fun a=>a=Da) fun a ha=>by rw [ha]; exact hD
  have Sw : RepS X.K H1 (fun a=>B a∨a=Da) σ δ:=(Sδ.mono s1).wide fun a ha=>by rw [ha]; exact hD
  refine ⟨fun i m σ' H'=>m=xs.length - i∧i≤xs.length∧(∃ w w',σ'=σ ++ [w,w'])∧Same H1 H'∧∃ ys dn rs,H' Da=some (.lst ys)∧Reps X.K H' (fun a=>B a∨a=Da) dn ys∧ds=dn ++ rs∧dn.length≤i ∧
    z2g (two (y0M fc fe δ)) (xs.drop i)=some rs,
    ⟨xs.length,by simp,Nat.zero_le _,⟨none,none,rfl⟩,z0p hD,[],[],ds,z0m,.nil,rfl,Nat.le_refl _,q1⟩,?_⟩
  rintro i m σ' H' ⟨rfl,hi',⟨w,w',rfl⟩,sm,ys,dn,rs,hys,rys,hds,hln,hrs⟩
  have kp : Keep X.K (fun a=>B a∨a=Da) H1 H':=.same sm
  by_cases hlt : i < xs.length
  · refine .inr ⟨it.go i H' kp hlt,fun σ'' H''=>(i + 1≤xs.length∧(∃ w w',σ''=σ ++ [w,w'])∧Same H1 H''∧∃ ys dn rs,H'' Da=some (.lst ys)∧Reps X.K H'' (fun a=>B a∨a=Da) dn ys∧ds=dn ++ rs∧dn.length≤i + 1 ∧
      z2g (two (y0M fc fe δ)) (xs.drop (i + 1))=some rs),fun σ'' H'' h=>⟨xs.length - (i + 1),by omega,rfl,h⟩,fun xv H2 hy=>?_⟩
    obtain ⟨s2,d,hd,rd⟩:=it.yld i H' xv H2 kp hy
    have hdi:=hd hlt
    have hx : xs.drop i=d :: xs.drop (i + 1):=by
      obtain ⟨hl,e⟩:=List.getElem?_eq_some_iff.mp hdi
      rw [List.drop_eq_getElem_cons hl,e]
    rw [hx] at hrs
    obtain ⟨o,rs',e2,e3,e4⟩:=z4j hrs
    obtain ⟨da,db,ed,e2b⟩:=y6H e2
    subst ed
    unfold Rep at rd
    obtain ⟨p,vs,rfl,hsq,rvs⟩:=rd
    unfold Reps at rvs
    obtain ⟨va,r1,rfl,ra,rvs⟩:=rvs
    unfold Reps at rvs
    obtain ⟨vb,r2,rfl,rb,rvs⟩:=rvs
    unfold Reps at rvs
    subst rvs
    refine ⟨p,[va,vb],rfl,hsq,rfl,va,[vb],rfl,vb,[],rfl,rfl,?_⟩
    rw [← hσ,z7w]
    have hB1 : InB (fun a=>B a∨a=Da) H2:=fun a ha=>ha.elim (fun z=>(((hB.mono s1).mono sm).mono s2) a z) fun z=>⟨_,s2 _ _ (z ▸ hys)⟩
    have S2 : RepS X.K H2 (fun a=>B a∨a=Da) (σ ++ [some va,some vb]) (δ ++ [some da,some db]):=((Sw.mono sm).mono s2).snoc2 ra rb
    have hl2 : ys.length < sizeLine:=by
      have:=rys.length
      omega
    unfold y0M at e2b
    cases ec : fc (δ ++ [some da,some db]) with
    | none=>rw [ec] at e2b; cases e2b
    | some kk=>
      rw [ec] at e2b
      have e2' : (if kk=true then (fe (δ ++ [some da,some db])).map some else some none)=some o:=e2b
      refine ⟨_,δ ++ [some da,some db],kk,hB1,S2,ec,fun H3 s3=>?_⟩
      cases kk with
      | false=>
        rw [if_neg Bool.false_ne_true] at e2'
        rw [if_neg Bool.false_ne_true]
        cases e2'
        exact ⟨hlt,⟨_,_,rfl⟩,(sm.trans s2).trans s3,ys,dn,rs',s3 _ _ (s2 _ _ hys),(rys.mono s2).mono s3,by rw [hds,e4]; rfl,Nat.le_succ_of_le hln,e3⟩
      | true=>
        rw [if_pos rfl] at e2'
        rw [if_pos rfl]
        cases ey : fe (δ ++ [some da,some db]) with
        | none=>rw [ey] at e2'; cases e2'
        | some y=>
          rw [ey] at e2'
          cases e2'
          refine ⟨_,δ ++ [some da,some db],y,hB1.mono s3,S2.mono s3,ey,fun yv H5 s5 r5=>⟨ys,s5 _ _ (s3 _ _ (s2 _ _ hys)),hl2,?_⟩⟩
          have hu : H5 Da=some (.lst ys):=s5 _ _ (s3 _ _ (s2 _ _ hys))
          refine ⟨hlt,⟨_,_,rfl⟩,fun b u hb=>?_,ys ++ [yv],dn ++ [y],rs',z0m,?_,by rw [hds,e4,List.append_assoc]; rfl,by rw [List.length_append]; simp; omega,e3⟩
          · rw [z0s (z1f hb hD)]
            exact s5 _ _ (s3 _ _ (s2 _ _ (sm _ _ hb)))
          · exact Reps.keep (.upd (.inr rfl) (by rw [hu]; exact trivial)) _ (((rys.mono s2).mono s3 |>.mono s5).snoc r5)
  · have e : i=xs.length:=by omega
    subst e
    refine .inl ⟨it.stop _ H' kp (Nat.le_refl _),?_⟩
    rw [List.drop_length] at hrs
    cases hrs
    rw [List.append_nil] at hds
    subst hds
    exact k Da ys H' (s1.trans sm) hD0 hys (rys.anti fun a z=>.inl z)
theorem pg_two {X : Cx} {n : Nat} {x y : Str} {px py tp : Pos} {x1} (hc : X.calm=true) (h1 : PG X (.Name x px) (z3u n)) (h2 : PG X (.Name y py) (z3u (n + 1)))
    (hs : (assignEach [.Name x px,.Name y py] X.env).map (·.2)=assign (.Name x px) X.env :: (assignEach [.Name y py] X.env).map (·.2):=by rfl) (hs2 : (assignEach [.Name y py] X.env).map (·.2)=assign (.Name y py) X.env :: (assignEach [] X.env).map (·.2):=by rfl)
    (hn : (assignEach [.Name x px,.Name y py] X.env).length=2:=by rfl) (hst : (assignEach [.Name x px,.Name y py] X.env).findIdx? (·.1)=none:=by rfl) : PG X (.Tuple [.Name x px,.Name y py] x1 tp) (gTwo X.K n):=
  pg_tup hc (y0h h1 (y0h h2 pgs_nil hs2) hs) hn hst
end
end L2

/-! ### E15: dicts by ints and texts,with items that cannot change -/
namespace L2
open PySem PySem.Spec PyProof.Rows
def z8X : D->Option Key
  | .int n=>some (.inl n)
  | .str x=>some (.inr x)
  | _=>none
theorem y1F {K : PySem.W.Frag} {H : Hp} {B : Addr->Prop} {d : D} {k : Key} {v : V} (e : z8X d=some k) (r : Rep K H B d v) : v=kV k:=by
  unfold z8X at e
  split at e
  · cases e; unfold Rep at r; exact r
  · cases e; unfold Rep at r; exact r
  · cases e
def setK (ks : List Key) (ds : List D) (k : Key) (d : D) : List D:=match ks,ds with
  | k' :: ks,e :: ds=>(if k'=k then d else e) :: setK ks ds k d
  | _,_=>[]
def z9O (ks : List Key) (k : Key) : Bool:=ks.any fun k'=>decide (k'=k)
def z8D (ks : List Key) (k : Key) : List Key:=if z9O ks k=true then ks else ks ++ [k]
def z9i (ks : List Key) (ds : List D) (k : Key) (d : D) : List D:=if z9O ks k=true then setK ks ds k d else ds ++ [d]
theorem z8Q {k : Key} {kvs : List (Key × V)} {ks : List Key} (e : kvs.map (·.1)=ks) : (kvs.any fun kv=>decide (kv.1=k))=z9O ks k:=by
  subst e
  unfold z9O
  rw [List.any_map]
  rfl
theorem y0a {K : PySem.W.Frag} {H : Hp} {k : Key} {d : D} {v : V} (td : Tree K H d v []) : ∀ {kvs : List (Key × V)} {ds : List D},Trees K H ds (kvs.map (·.2)) []->Trees K H (setK (kvs.map (·.1)) ds k d) ((kvs.map fun kv=>if kv.1=k then (kv.1,v) else kv).map (·.2)) []
  | [],ds,t=>by
    cases ds with
    | nil=>exact .nil
    | cons e ds=>unfold Trees at t; obtain ⟨_,_,_,_,z,_⟩:=t; cases z
  | p :: r,[],t=>by obtain ⟨z,_⟩:=t; cases z
  | p :: r,e :: ds,t=>by
    unfold Trees at t
    obtain ⟨x,xs,B,C,e1,t1,t2,e2⟩:=t
    cases e1
    obtain ⟨rfl,rfl⟩:=List.append_eq_nil_iff.mp e2.symm
    have ih:=y0a (k:=k) td (kvs:=r) t2
    rw [List.map_cons,List.map_cons,List.map_cons]
    unfold setK Trees
    refine ⟨_,_,[],[],rfl,?_,ih,rfl⟩
    by_cases h : p.1=k
    · rw [if_pos h,if_pos h]; exact td
    · rw [if_neg h,if_neg h]; exact t1
theorem y5Z {k : Key} {v : V} {kvs : List (Key × V)} : (z7m kvs k v).map (·.1)=z8D (kvs.map (·.1)) k:=by
  unfold z7m z8D
  rw [z8Q (k:=k) (kvs:=kvs) rfl]
  by_cases h : z9O (kvs.map (·.1)) k=true
  · rw [if_pos h,if_pos h,List.map_map]
    apply List.map_congr_left
    intro p _
    show (if p.1=k then (p.1,v) else p).1=p.1
    split <;> rfl
  · rw [if_neg h,if_neg h,List.map_append]
    rfl
theorem y5V {K : PySem.W.Frag} {H : Hp} {k : Key} {d : D} {v : V} {kvs : List (Key × V)} {ds : List D} (td : Tree K H d v []) (t : Trees K H ds (kvs.map (·.2)) []) : Trees K H (z9i (kvs.map (·.1)) ds k d) ((z7m kvs k v).map (·.2)) []:=by
  unfold z7m z9i
  rw [z8Q (k:=k) (kvs:=kvs) rfl]
  by_cases h : z9O (kvs.map (·.1)) k=true
  · rw [if_pos h,if_pos h]
    exact y0a td t
  · rw [if_neg h,if_neg h,List.map_append]
    exact t.snoc td
theorem y5A {k : Key} {kvs : List (Key × V)} : (z9B kvs k).isSome=z9O (kvs.map (·.1)) k:=by rw [← z6u]; exact z8Q rfl
/-! rules -/
def inK : D->D->Option Bool:=fun x y=>match y with
  | .dct ks _=>(z8X x).map fun k=>z9O ks k
  | _=>none
def y5z (f g : DE) : DS->Option Bool:=fun δ=>(f δ).bind fun x=>(g δ).bind fun y=>inK x y
def dDNin (f g : DE) : DS->Option Bool:=fun δ=>(y5z f g δ).map (!·)
section
variable {X : Cx} {a b o i value : Expr} {f g : DE} {pos pos' : Pos}
theorem y5J {δ : DS} {c : Bool} (h : y5z f g δ=some c) : ∃ x k ks ds,f δ=some x∧z8X x=some k∧g δ=some (.dct ks ds)∧c=z9O ks k:=by
  unfold y5z at h
  cases e1 : f δ with
  | none=>rw [e1] at h; cases h
  | some x=>
    rw [e1] at h
    cases e2 : g δ with
    | none=>rw [e2] at h; cases h
    | some y=>
      rw [e2] at h
      have h : inK x y=some c:=h
      unfold inK at h
      split at h
      · cases e3 : z8X x with
        | none=>rw [e3] at h; cases h
        | some k=>rw [e3] at h; cases h; exact ⟨x,k,_,_,rfl,e3,rfl,rfl⟩
      · cases h
theorem pt_din (hu : X.A.units + 64 < cLine) (ha : PD X a f) (hb : PD X b g) (hm : behindInMarks .In b=false:=by rfl) : PTD X (.Compare a [.In] [b] pos) (y5z f g):=
  (y8p (pc_din (by omega) ha hb) hm).imp fun σ H Q ⟨B,δ,c,hB,S,q,k⟩=>by
    obtain ⟨x,ky,ks,ds,e1,e2,e3,rfl⟩:=y5J q
    refine ⟨B,δ,x,hB,S,e1,fun v H1 s1 r1=>⟨B,δ,_,hB.mono s1,S.mono s1,e3,fun w H2 s2 r2=>?_⟩⟩
    unfold Rep at r2
    obtain ⟨p,kvs,rfl,n,hp,ek,rs⟩:=r2
    have ev:=y1F e2 r1
    subst ev
    refine ⟨p,z9B kvs ky,rfl,DGet.k hp,_,rfl,?_⟩
    rw [y5A,ek]
    exact k H2 (s1.trans s2)
theorem pn_dnew : PN X (.Dict [] [] pos) (dC (.dct [] [])):=pe_dnewK.imp fun σ H Q ⟨δ,d,S,q,k⟩=>by
  cases q
  intro p hp
  refine k _ _ [p] (z0p hp) ?_ (List.nodup_cons.mpr ⟨fun z=>(nomatch z),List.nodup_nil⟩) fun a ha=>?_
  · unfold Tree
    exact ⟨p,[],[],rfl,z0m,rfl,.nil,rfl⟩
  · rw [List.mem_singleton.mp ha]; exact hp
variable {H0 : Hp} {B0 : Addr->Prop} {fr : Bool} {RX : XR} {x : Str} {px : Pos} {ke e : Expr}
def dput (i : Nat) (fk fv : DE) : SS->Option Out:=fun δ=>(fv (z0o δ)).bind fun d=>if d.imm=true then (fk (z0o δ)).bind fun dk=>(match z8X dk,δ[i]? with
  | some k,some (some (.ow (.dct ks ds)))=>if z1l ds=true∧ks.length < sizeLine then some (.nx ((z0x i δ).set i (some (.ow (.dct (z8D ks k) (z9i ks ds k d)))))) else none
  | _,_=>none) else none
theorem y2e {K : PySem.W.Frag} {H : Hp} {ds : List D} {xs : List V} {A : List Addr} (t : Trees K H ds xs A) (h : z1l ds=true) : Trees K H ds xs []:=Reps.immTree (B:=fun _=>False) ds h (t.rep ds fun _ _ z=>z)
theorem s_dput {i : Nat} {fk fv : DE} (hu : X.A.units + 64 < cLine) (hx : PE X (.Name x px) (z9Y i)) (hk : PD X ke fk) (hv : PD X e fv)
    (hs : swapsWith e (some (.Subscript (.Name x px) ke pos')) pos.line X.env=pure false:=by rfl) :
    PS X (.Assign [.Subscript (.Name x px) ke pos'] e pos) (tS X.K H0 B0 fr RX (dput i fk fv)):=
  PS.imp (ps_dput (by omega) hx hk hv hs) fun D σ H ⟨δ,R,o,rs,q,kk⟩=>by
    unfold dput at q
    cases e1 : fv (z0o δ) with
    | none=>rw [e1] at q; cases q
    | some d=>
    rw [e1,Option.bind_some] at q
    split at q
    case isFalse=>cases q
    case isTrue hi=>
    cases e2 : fk (z0o δ) with
    | none=>rw [e2] at q; cases q
    | some dk=>
    rw [e2,Option.bind_some] at q
    split at q
    case h_2=>cases q
    case h_1 k ks ds e3 ei=>
    split at q
    case isFalse=>cases q
    case isTrue hc=>
    cases q
    obtain ⟨v0,ev,t0,nd⟩:=rs.ow i _ ei
    unfold Tree at t0
    obtain ⟨a,kvs,A,rfl,ha,ek,ts,eR⟩:=t0
    have ts:=y2e ts hc.1
    refine ⟨noB,z0o δ,d,.no,rs.all,e1,fun v H1 s1 r1=>⟨.ref a,ev,noB,z0o δ,dk,.no,rs.all.mono s1,e2,fun kv H2 s2 r2=>?_⟩⟩
    have ekv:=y1F e3 r2
    subst ekv
    subst ek
    have ha2 : H2 a=some (.dK kvs):=s2 _ _ (s1 _ _ ha)
    refine ⟨a,_,rfl,DPut.k ha2 (by rw [← List.length_map (f:=(·.1))]; exact hc.2),?_⟩
    have haR : a∈R i:=by rw [eR]; exact List.mem_cons_self
    have mu : Mut (H2 a):=by rw [ha2]; exact trivial
    have td : Tree X.K H2 d v []:=(r1.immTree d hi).mono s2
    have tp:=y5V (k:=k) td (ts.mono (s1.trans s2))
    have P:=rs.rewrite (d':=.dct (z8D (kvs.map (·.1)) k) (z9i (kvs.map (·.1)) ds k d)) (a:=a) (o:=.dK (z7m kvs k v)) (A':=[a]) (s1.trans s2) ei ev haR (by
      unfold Tree
      exact ⟨a,z7m kvs k v,[],rfl,z0m,y5Z,Trees.keep (Keep.upd (K:=X.K) (B:=fun x=>x=a) rfl mu).i _ tp fun b hb=>(nomatch hb),rfl⟩) (List.nodup_cons.mpr ⟨fun z=>(nomatch z),List.nodup_nil⟩) fun b hb=>by
        rw [List.mem_singleton.mp hb]; exact .inl haR
    exact kk σ _ _ P.1 P.2
end
end L2

/-! ### E16: x[::-1],lists put together,list.index,max,min -/
namespace HT
open PySem PySem.Spec PyProof.Rows
section
variable {prog : Program} {w : World} {A : Around} {E : Value->Shared->Prop} {s : Shared}
end
end HT
namespace L2
open PySem PySem.Spec PyProof.Rows
section
variable {X : Cx} {e st : Expr} {te : TE} {tk : TO} {pos p2 : Pos}
theorem Reps.reverse {K : PySem.W.Frag} {H : Hp} {B : Addr->Prop} : ∀ {ds : List D} {xs : List V},Reps K H B ds xs->Reps K H B ds.reverse xs.reverse
  | [],_,h=>by unfold Reps at h; subst h; exact .nil
  | d :: ds,_,h=>by
    unfold Reps at h
    obtain ⟨x,r,rfl,h1,h2⟩:=h
    rw [List.reverse_cons,List.reverse_cons]
    exact (Reps.reverse h2).snoc h1
def revT : D->D->Option D
  | .tup ds,.int k=>if k = -1 then some (.tup ds.reverse) else none
  | _,_=>none
def revLs : D->D->Option (List D)
  | .lst ds,.int k=>if k = -1 then some ds.reverse else none
  | .scr ns,.int k=>if k = -1 then some (ns.map D.int).reverse else none
  | _,_=>none
def dRevL (f g : DE) : DS->Option (List D):=fun δ=>(f δ).bind fun x=>(g δ).bind fun y=>revLs x y
variable {f g : DE}
/-! lists put together -/
variable {a b : Expr}
def catLs : D->D->Option (List D)
  | .lst ds,.lst es=>if ds.length + es.length≤sizeLine then some (ds ++ es) else none
  | _,_=>none
def z8x (f g : DE) : DS->Option (List D):=fun δ=>(f δ).bind fun x=>(g δ).bind fun y=>catLs x y
theorem z3x (ha : PD X a f) (hb : PD X b g) : PF X (.BinOp a .Add b pos) (z8x f g):=(pe_op op_cat ha hb).imp fun σ H Q ⟨B,δ,ds,hB,S,q,k⟩=>by
  unfold z8x at q
  cases e1 : f δ with
  | none=>rw [e1] at q; cases q
  | some x=>
  rw [e1,Option.bind_some] at q
  cases e2 : g δ with
  | none=>rw [e2] at q; cases q
  | some y=>
  rw [e2,Option.bind_some] at q
  unfold catLs at q
  split at q
  case h_2=>cases q
  case h_1 xs ys=>
  split at q
  case isFalse=>cases q
  case isTrue hl=>
  cases q
  refine ⟨B,δ,_,hB,S,e1,fun v H1 s1 r1=>⟨B,δ,_,hB.mono s1,S.mono s1,e2,fun v2 H2 s2 r2=>?_⟩⟩
  unfold Rep at r1 r2
  obtain ⟨p1,vs,rfl,n1,h1,rs1⟩:=r1
  obtain ⟨p2,ws,rfl,n2,h2,rs2⟩:=r2
  refine ⟨p1,p2,vs,ws,rfl,rfl,s2 _ _ h1,h2,by rw [← rs1.length,← rs2.length]; exact hl,fun p hp=>?_⟩
  exact k p _ _ ((s1.trans s2).trans (z0p hp)) ((s1.trans s2).free hp) z0m (((rs1.mono s2).append rs2).mono (z0p hp))
/-! max,min of two ints -/
def maxF : List D->Option D
  | [.int i,.int j]=>some (.int (if j > i then j else i))
  | _=>none
variable {p : Pos}
end
end L2

/-! ### E17: list.index; extend,clear of an owned list -/
namespace L2
open PySem PySem.Spec PyProof.Rows
section
variable {X : Cx} {o e : Expr} {apos cpos : Pos}
def rLIx (K : PySem.W.Frag) : V->List V->Hp->VK->Prop:=fun x vs H Q=>∃ (a : Addr) (ns : List Int) (i : Int) (j : Nat),x = .ref a∧vs=[.int i]∧SqL K H a (ns.map V.int)∧ns.findIdx? (fun n=>n == i)=some j∧Q (.int (j : Int)) H
theorem y4x : MtR X "list.index" (rLIx X.K):=by
  intro pins s σ H x vs v us Q I rx rv h
  obtain ⟨a,ns,i,j,rfl,rfl,hq,hj,q⟩:=h
  cases rx
  obtain ⟨u,rfl,ru⟩:=rv.one
  obtain ⟨ut,rfl⟩:=ru
  obtain ⟨its,r,⟨⟨cls,dct,dat,sl⟩,n,e,c,d,hd⟩,hz⟩:=I.list hq
  have c : cls = .type "list" := c
  have hd : dat = .seq its.toArray n:=hd
  subst c; subst hd
  obtain ⟨hjl,hji,hjm⟩:=List.findIdx?_eq_some_iff_getElem.mp hj
  have hl : ns.length=its.length:=by have:=r.length; simpa using this
  have hj2 : j < its.length:=by omega
  rw [sizeLine_eq,List.length_map] at hz
  refine call_meets F.slot_list_index ⟨_,e,rfl⟩ F.entry_list_index (F.args_list_index_2 _ _) (SeqAt.list_indexAt a its.toArray n dct sl (.int i ut) (isI i) j (by simpa using hj2) (by omega) ?_ ?_) ⟨e,?_,?_⟩
  · obtain ⟨t,h2,e2⟩:=z8I r j hj2
    simp [e2,isI]
    simpa using hji
  · intro m hm hmj
    obtain ⟨t,h2,e2⟩:=z8I r m (by omega)
    have:=hjm m hmj
    simp [e2,isI]
    simpa using this
  · intro y hy
    obtain ⟨k,hk,rfl⟩:=List.getElem_of_mem (show y∈its by simpa using hy)
    obtain ⟨t,h2,e2⟩:=z8I r k hk
    rw [e2]
    exact SeqAt.EqAt.int_int _ _ _ _
  · exact ⟨.int (j : Int),H,I.tok _,⟨_,rfl⟩,q⟩
def y6T : D->D->Option D
  | .lst ds,.int i=>(z1n ds).bind fun ns=>(ns.findIdx? (fun n=>n == i)).map fun j=>.int (j : Int)
  | _,_=>none
theorem z5h {f g : DE} (ho : PD X o f) (he : PD X e g) (hbase : attributeBase o "index" X.env (eval o X.env)=eval o X.env:=by rfl)
    (hfew : ((backTo cpos (starEach [e] X.env)).all (fun x=>!x.1) && (backToKw cpos (keywordEach [] X.env)).all (fun x=>x.1.isSome) && decide ([e].length + ([] : List Keyword).length + (if ([] : List Keyword).isEmpty then 0 else 1) < 30))=true:=by rfl)
    (hline : (apos.endLine == cpos.line)=true:=by rfl) (hs : starEach [e] X.env=(false,eval e X.env) :: starEach [] X.env:=by rfl) :
    PD X (.Call (.Attribute o "index" apos) [e] [] cpos) (d2 y6T f g):=
  (y6R PySem.F.plainAttrs_list PySem.F.slot_list_index PySem.F.type_list_index y4x ho (z1o he pa_nil hs) hbase hfew hline hs rfl).imp fun σ H Q ⟨B,δ,d,hB,S,q,k⟩=>by
    obtain ⟨x,y,e1,e2,e3⟩:=z4Z q
    unfold y6T at e3
    split at e3
    case h_2=>cases e3
    case h_1 ds i=>
    cases e4 : z1n ds with
    | none=>rw [e4] at e3; cases e3
    | some ns=>
    rw [e4,Option.bind_some] at e3
    cases e5 : ns.findIdx? (fun n=>n == i) with
    | none=>rw [e5] at e3; cases e3
    | some j=>
    rw [e5] at e3
    cases e3
    have eds:=z4c e4
    subst eds
    refine ⟨B,δ,_,hB,S,e1,fun v H1 s1 r1=>?_⟩
    unfold Rep at r1
    obtain ⟨a,xs,rfl,nb,hq,rs⟩:=r1
    have ex:=z3Y rs
    subst ex
    refine ⟨.inl ⟨rfl,_,SqL.of hq⟩,B,δ,_,hB.mono s1,S.mono s1,e2,fun v2 H2 s2 r2=>?_⟩
    unfold Rep at r2
    subst r2
    exact ⟨a,ns,i,j,rfl,rfl,SqL.of (s2 _ _ hq),e5,k _ H2 (s1.trans s2) (by unfold Rep; rfl)⟩
end
end L2
namespace L2
open PySem PySem.Spec PyProof.Rows
section
variable {X : Cx} {H0 : Hp} {B0 : Addr->Prop} {fr : Bool} {RX : XR} {e : Expr} {pos : Pos} {f : DE}
/-- a call for itself -/
def exprN (f : DE) : SS->Option Out:=fun δ=>(f (z0o δ)).map fun _=>.nx δ
end
end L2

/-! ### E18: range(lo,hi,step); while; x is None -/
namespace L2
open PySem PySem.Spec PyProof.Rows
def cntR (lo hi c : Int) : Nat:=if lo < hi then ((hi - lo - 1) / c + 1).toNat else 0
section
variable {X : Cx} {tg : Expr}
theorem Vals.three : ∀ {x y z : V} {us : List Value},Vals [x,y,z] us->∃ u v w,us=[u,v,w]∧RelV x u∧RelV y v∧RelV z w
  | _,_,_,_,.cons r (.cons q (.cons p .nil))=>⟨_,_,_,rfl,r,q,p⟩
def rngC (lo c : Int) (n : Nat) : List D:=(List.range n).map fun i=>.int (lo + (i : Nat) * c)
def rng3 : Option D->Option D->Option D->Option (List D)
  | some (.int i),some (.int j),some (.int c)=>if -(2 ^ 61)≤i∧i < 2 ^ 61∧-(2 ^ 61)≤j∧j < 2 ^ 61∧0 < c∧c < 2 ^ 30 then some (rngC i c (cntR i j c)) else none
  | _,_,_=>none
def dRng3 (f g h : DE) : DS->Option (List D):=fun δ=>rng3 (f δ) (g δ) (h δ)
end
/-! while -/
def z3O (c : DS->Option Bool) (b : SS->Option Out) : Nat->SS->Option Out
  | 0,_=>none
  | n + 1,δ=>(c (z0o δ)).bind fun k=>if k=true then (b δ).bind fun o=>(match o with
    | .nx δ'=>z3O c b n δ'
    | .ct δ'=>z3O c b n δ'
    | .bk δ'=>some (.nx δ')
    | .rt d=>some (.rt d)
    | .ex c δ'=>some (.ex c δ')) else some (.nx δ)
section
variable {X : Cx} {H0 : Hp} {B0 : Addr->Prop} {fr : Bool} {RX : XR} {pos : Pos}
theorem s_while {c : Expr} {body : List Stmt} {fc : DS->Option Bool} {g : SS->Option Out} (n : Nat) (hp : PassesOwn (model X.prog X.w) X.A X.env X.xe) (hc : PTD X c fc) (hb : PSs X body (tS X.K H0 B0 fr RX g)) : PS X (.While c body [] pos) (tS X.K H0 B0 fr RX (z3O fc g n)):=
  PS.imp (y6p hp hc hb) fun D σ H ⟨δ,R,o,rs,q,k⟩=>by
    refine ⟨fun m σ' H'=>∃ δ' R',RS X.K H0 B0 H' σ' δ' R'∧Stp R H R' H'∧z3O fc g m δ'=some o,⟨n,δ,R,rs,.refl R H,q⟩,?_⟩
    rintro m σ' H' ⟨δ',R',rs',s',q'⟩
    cases m with
    | zero=>cases q'
    | succ m=>
      unfold z3O at q'
      cases ec : fc (z0o δ') with
      | none=>rw [ec] at q'; cases q'
      | some kk=>
        rw [ec,Option.bind_some] at q'
        refine ⟨noB,z0o δ',kk,.no,rs'.all,ec,fun H1 s1=>?_⟩
        have rs1:=rs'.mono s1
        have st1 : Stp R H R' H1:=s'.trans (.same s1)
        cases kk with
        | false=>
          rw [if_neg Bool.false_ne_true] at q'
          cases q'
          exact k σ' H1 R' rs1 st1
        | true=>
          rw [if_pos rfl] at q'
          cases eb : g δ' with
          | none=>rw [eb] at q'; cases q'
          | some ob=>
            rw [eb,Option.bind_some] at q'
            refine ⟨fun σ2 H2=>∃ δ2 R2,RS X.K H0 B0 H2 σ2 δ2 R2∧Stp R H R2 H2∧z3O fc g m δ2=some o,fun σ2 H2 z=>⟨m,Nat.lt_succ_self m,z⟩,δ',R',ob,rs1,eb,?_⟩
            cases ob with
            | nx δ2=>exact fun σ3 H3 R3 rs3 s3=>⟨δ2,R3,rs3,st1.trans s3,q'⟩
            | ct δ2=>exact fun σ3 H3 R3 rs3 s3=>⟨δ2,R3,rs3,st1.trans s3,q'⟩
            | bk δ2=>
              cases q'
              exact fun σ3 H3 R3 rs3 s3=>k σ3 H3 R3 rs3 (st1.trans s3)
            | rt d=>
              cases q'
              exact k.back st1
            | ex c δ2=>
              cases q'
              exact k.back st1
/-! x is None -/
def isN : D->Bool
  | .non=>true
  | _=>false
theorem rep_isN {K : PySem.W.Frag} {H : Hp} {B : Addr->Prop} {d : D} {v : V} (r : Rep K H B d v) : decide (v=V.non)=isN d:=by
  cases d with
  | non=>unfold Rep at r; subst r; rfl
  | bl b=>unfold Rep at r; subst r; rfl
  | int i=>unfold Rep at r; subst r; rfl
  | str x=>unfold Rep at r; subst r; rfl
  | lst ds=>unfold Rep at r; obtain ⟨a,xs,rfl,_⟩:=r; rfl
  | tup ds=>unfold Rep at r; obtain ⟨a,xs,rfl,_⟩:=r; rfl
  | scr ns=>unfold Rep at r; obtain ⟨a,rfl,_⟩:=r; rfl
  | dct ks ds=>unfold Rep at r; obtain ⟨a,kvs,rfl,_⟩:=r; rfl
  | exc x=>unfold Rep at r; obtain ⟨a,C,rfl,_⟩:=r; rfl
def dIsN (f : DE) : DS->Option Bool:=fun δ=>(f δ).map isN
def y3E (f : DE) : DS->Option Bool:=fun δ=>(f δ).map fun d=>!isN d
variable {a : Expr} {f : DE}
theorem z6c {j pos'} (ha : PD X a f) (hm : behindInMarks .IsNot (.Constant .none j pos')=false:=by rfl) : PTD X (.Compare a [.IsNot] [.Constant .none j pos'] pos) (y3E f):=(y8p (pc_notN ha) hm).imp fun σ H Q ⟨B,δ,c,hB,S,q,k⟩=>by
  unfold y3E at q
  cases e : f δ with
  | none=>rw [e] at q; cases q
  | some d=>
    rw [e] at q
    cases q
    refine ⟨B,δ,d,hB,S,e,fun v H1 s1 r1=>⟨_,rfl,?_⟩⟩
    rw [rep_isN r1]
    exact k H1 s1
end
end L2

/-! ### E19: x is True; xs.clear(),xs.extend(..); sorted of ints -/
namespace L2
open PySem PySem.Spec PyProof.Rows
section
variable {X : Cx} {a b : Expr} {f g : DE} {pos : Pos}
def isB : D->D->Option D
  | .bl c,.bl d=>some (.bl (c == d))
  | _,_=>none
def notB : D->D->Option D
  | .bl c,.bl d=>some (.bl (c != d))
  | _,_=>none
variable {H0 : Hp} {B0 : Addr->Prop} {fr : Bool} {RX : XR} {x : Str} {px ap cp : Pos} {e : Expr}
def clr0 (i : Nat) : SS->Option Out:=fun δ=>match δ[i]? with
  | some (some (.ow (.lst _)))=>some (.nx ((z0x i δ).set i (some (.ow (.lst [])))))
  | _=>none
def y1S (i : Nat) (f : DE) : SS->Option Out:=fun δ=>(f (z0o δ)).bind fun d=>(match d,δ[i]? with
  | .lst es,some (some (.ow (.lst ds)))=>if ds.length + es.length≤sizeLine then some (.nx ((z0x i δ).set i (some (.ow (.lst (ds ++ es)))))) else none
  | _,_=>none)
theorem y2r {i : Nat} (hx : PE X (.Name x px) (z9Y i)) (he : PN X e f) (hbase : attributeBase (.Name x px) "extend" X.env (eval (.Name x px) X.env)=eval (.Name x px) X.env:=by rfl)
    (hfew : ((backTo cp (starEach [e] X.env)).all (fun x=>!x.1) && (backToKw cp (keywordEach [] X.env)).all (fun x=>x.1.isSome) && decide ([e].length + ([] : List Keyword).length + (if ([] : List Keyword).isEmpty then 0 else 1) < 30))=true:=by rfl)
    (hline : (ap.endLine == cp.line)=true:=by rfl) (hs : starEach [e] X.env=(false,eval e X.env) :: starEach [] X.env:=by rfl) (hsw : swapsWith (.Call (.Attribute (.Name x px) "extend" ap) [e] [] cp) none pos.line X.env=pure false:=by rfl) :
    PS X (.Expr (.Call (.Attribute (.Name x px) "extend" ap) [e] [] cp) pos) (tS X.K H0 B0 fr RX (y1S i f)):=
  PS.imp (z5c (y6R PySem.F.plainAttrs_list PySem.F.slot_list_extend PySem.F.type_list_extend y2x hx (z1o he pa_nil hs) hbase hfew hline hs rfl) hsw) fun D σ H ⟨δ,R,o,rs,q,k⟩=>by
    unfold y1S at q
    cases e1 : f (z0o δ) with
    | none=>rw [e1] at q; cases q
    | some d=>
    rw [e1,Option.bind_some] at q
    split at q
    case h_2=>cases q
    case h_1 es ds ei=>
    split at q
    case isFalse=>cases q
    case isTrue hl=>
    cases q
    obtain ⟨a,xs,A,ev,ha,ts,eR,nd⟩:=rs.top ei
    refine ⟨.ref a,ev,.inl ⟨rfl,xs,SqL.of ha⟩,z0o δ,_,rs.all,e1,fun y H2 C s2 t2 nC fC=>?_⟩
    unfold Tree at t2
    obtain ⟨b,zs,C',rfl,hb,tz,rfl⟩:=t2
    have nC':=(List.nodup_cons.mp nC).2
    refine ⟨a,b,xs,zs,rfl,rfl,s2 _ _ ha,hb,by rw [← ts.length,← tz.length]; exact hl,?_⟩
    have hAC : (A ++ C').Nodup:=List.nodup_append.mpr ⟨(List.nodup_cons.mp nd).2,nC',fun p hp c hc z=>by
      subst z
      obtain ⟨u,q,_⟩:=Trees.held ds ts p hp
      rw [fC p (List.mem_cons_of_mem _ hc)] at q; cases q⟩
    have P:=rs.put0 s2 ei ev eR nd ((ts.mono s2).append tz) hAC fun p hp=>(List.mem_append.mp hp).imp id fun z=>fC p (List.mem_cons_of_mem _ z)
    exact k σ _ _ P.1 P.2
end
end L2

/-! ### E20: sorted of ints -/
namespace L2
open PySem PySem.Spec PyProof.Rows
def insS (x : Int) : List Int->List Int
  | []=>[x]
  | y :: r=>if x≤y then x :: y :: r else y :: insS x r
def z8U : List Int->List Int
  | []=>[]
  | x :: r=>insS x (z8U r)
theorem z5I (x : Int) : ∀ l : List Int,(insS x l).Perm (x :: l)
  | []=>.refl _
  | y :: r=>by
    unfold insS
    split
    · exact .refl _
    · exact ((z5I x r).cons y).trans (.swap x y r)
theorem z7V : ∀ l : List Int,(z8U l).Perm l
  | []=>.refl _
  | x :: r=>(z5I x _).trans ((z7V r).cons x)
theorem z5n {x : Int} : ∀ {l : List Int},l.Pairwise (· ≤ ·)->(insS x l).Pairwise (· ≤ ·)
  | [],_=>by unfold insS; simp
  | y :: r,h=>by
    unfold insS
    split
    · rename_i hxy
      refine List.pairwise_cons.mpr ⟨fun z hz=>?_,h⟩
      rcases List.mem_cons.mp hz with e | e
      · omega
      · have:=(List.pairwise_cons.mp h).1 z e
        omega
    · rename_i hxy
      refine List.pairwise_cons.mpr ⟨fun z hz=>?_,z5n (List.pairwise_cons.mp h).2⟩
      rcases List.mem_cons.mp ((z5I x r).mem_iff.mp hz) with e | e
      · omega
      · exact (List.pairwise_cons.mp h).1 z e
theorem z5H : ∀ l : List Int,(z8U l).Pairwise (· ≤ ·)
  | []=>.nil
  | _ :: r=>z5n (z5H r)
theorem z6n : ∀ {a b : List Int},a.Perm b->a.Pairwise (· ≤ ·)->b.Pairwise (· ≤ ·)->a=b
  | [],b,p,_,_=>(List.nil_perm.mp p).symm
  | x :: a,[],p,_,_=>by have:=p.length_eq; simp at this
  | x :: a,y :: b,p,ha,hb=>by
    obtain ⟨ha1,ha2⟩:=List.pairwise_cons.mp ha
    obtain ⟨hb1,hb2⟩:=List.pairwise_cons.mp hb
    have hxy : x=y:=by
      have h1 : x∈y :: b:=p.mem_iff.mp List.mem_cons_self
      have h2 : y∈x :: a:=p.mem_iff.mpr List.mem_cons_self
      rcases List.mem_cons.mp h1 with e | e
      · exact e
      · rcases List.mem_cons.mp h2 with e' | e'
        · exact e'.symm
        · have:=ha1 y e'
          have:=hb1 x e
          omega
    subst hxy
    rw [z6n (List.perm_cons x |>.mp p) ha2 hb2]
theorem y1O {a l : List Int} (p : a.Perm l) (h : a.Pairwise (· ≤ ·)) : a=z8U l:=z6n (p.trans (z7V l).symm) h (z5H l)
section
variable {prog : Program} {w : World} {A : Around} {E : Value->Shared->Prop} {s : Shared}
theorem z5Y {l : Addr} {T : String} {o : Obj} {vs : List Value} {n : Nat} {ns : List Int} {Q : Value->Shared->Prop} (hT : T = "list" ∨ T = "tuple") (ho : s.heap.get? l=some o) (hc : o.cls = .type T) (hd : o.data = .seq vs.toArray n) (hI : IntsAre vs ns) (h64 : vs.length < 64)
    (h : ∀ (h1 h' : Heap) (out : List Value) (e : Nat) (ns' : List Int),(∀ b o',s.heap.get? b=some o'->h1.get? b=some o')->(∀ b o',h1.get? b=some o'->h'.get? b=some o')->h'.get? h1.objs.size=some { cls:=.type "list",data:=.seq out.toArray e }->IntsAre out ns'->ns'.Perm ns->ns'.Pairwise (· ≤ ·)->Q (.ref h1.objs.size) { s with heap:=h' }) :
    wpAny (model prog w) A (call (.builtin "sorted") [.ref l]) Q E s:=by
  refine Calls.call_function_entry kind_sorted plain_sorted entry_sorted (args_sorted1 _) ?_
  unfold Builtin.«sorted»
  refine wpAny_bind (m:=checkCount "sorted" 1 1 _) (wpAny_pure ?_)
  refine wpAny_bind (wpAny_collect_seq l hT ho hc hd (fun h1 k1=>?_) (by rw [List.size_toArray,sizeLine_eq]; omega))
  rw [List.toList_toArray]
  refine wpAny_bind (wpAny_newList ?_)
  have hoL : (h1.push (seqObj "list" vs.toArray 0)).get? h1.objs.size=some (seqObj "list" vs.toArray 0):=Heap.get?_push_size _ rfl
  show wpAny _ _ _ _ _ { s with heap:=h1.push (seqObj "list" vs.toArray 0) }
  refine wpAny_bind (wpAny_holding (wpAny_call_entry slot_list_sort ⟨_,hoL,rfl⟩ entry_list_sort (list_sort_tree hoL hI h64 fun out ns' a1 a2 a3=>⟨_,rfl,?_⟩) (args_list_sort _)))
  obtain ⟨e,he⟩:=sortedHeap_at (out:=out) hoL
  refine wpAny_pure ⟨_,rfl,h h1 _ out.toList e ns' k1 (fun b o' hb=>?_) (by simpa [seqObj] using he) a1 a2 a3⟩
  have hlt : b < h1.objs.size:=Heap.lt_size hb
  rw [sortedHeap_old (Nat.ne_of_lt hlt) (by rw [size_push']; exact Nat.lt_succ_of_lt hlt)]
  exact Heap.get?_push_of_some _ hb
end
section
variable {X : Cx}
theorem intsV : ∀ {ns : List Int} {vs : List Value},IntsAre vs ns->Vals (ns.map V.int) vs
  | _,_,.nil=>.nil
  | _,_,.cons n t r=>.cons ⟨t,rfl⟩ (intsV r)
theorem z6B : ∀ {ns : List Int} {vs : List Value},Vals (ns.map V.int) vs->IntsAre vs ns
  | [],_,.nil=>.nil
  | n :: ns,_,.cons ⟨t,e⟩ r=>by subst e; exact .cons n t (z6B r)
theorem z7Y : CallR X (.builtin "sorted") (fun xs H Q=>∃ (p : Addr) (ns : List Int),xs=[.ref p]∧(SqL X.K H p (ns.map V.int)∨SqT X.K H p (ns.map V.int))∧ns.length < 64∧∀ l,H l=none->Q (.ref l) (upd H l (.lst ((z8U ns).map V.int)))):=by
  intro pins s σ H xs us Q I r h
  obtain ⟨p,ns,rfl,hq,h64,q⟩:=h
  obtain ⟨u,rfl,rx⟩:=z5o r
  cases rx
  have fin : ∀ (its : List Value),Vals (ns.map V.int) its->∀ (h1 h' : Heap) (out : List Value) (e : Nat) (ns' : List Int),(∀ b o',s.heap.get? b=some o'->h1.get? b=some o')->(∀ b o',h1.get? b=some o'->h'.get? b=some o')->h'.get? h1.objs.size=some { cls:=.type "list",data:=.seq out.toArray e }->IntsAre out ns'->ns'.Perm ns->ns'.Pairwise (· ≤ ·)->EP X pins σ Q (.ref h1.objs.size) { s with heap:=h' }:=by
    intro its rv h1 h' out e ns' k1 k2 ho hi hp hs
    have es:=y1O hp hs
    subst es
    have I1 : Inv X pins σ H { s with heap:=h1 }:=I.kept (t':=s.toks) k1
    refine ⟨.ref h1.objs.size,_,Inv.laid (s:={ s with heap:=h1 }) (t':=s.toks) I1 k2 (Nat.le_refl _) (show ObjOk X.prog X.w _ h' _ (.lst ((z8U ns).map V.int)) from ⟨?_,out,e,intsV hi,ho⟩),rfl,q _ (I1.hok.fresh (Nat.le_refl _))⟩
    rw [List.length_map,hp.length_eq,sizeLine_eq]
    omega
  rcases hq with hq | hq
  · obtain ⟨its,rv,⟨o,n,e,c,_,d⟩,hz⟩:=I.list hq
    have hlen : its.length=ns.length:=by have:=rv.length; simpa using this.symm
    exact z5Y (.inl rfl) e c d (z6B rv) (by omega) (fin its rv)
  · obtain ⟨its,o,n,rv,e,c,_,d,hz⟩:=I.tupleO hq
    have hlen : its.length=ns.length:=by have:=rv.length; simpa using this.symm
    exact z5Y (.inr rfl) e c d (z6B rv) (by omega) (fin its rv)
def z8W : List D->Option (List D)
  | [.lst ds]=>(z1n ds).bind fun ns=>if ns.length < 64 then some ((z8U ns).map .int) else none
  | [.tup ds]=>(z1n ds).bind fun ns=>if ns.length < 64 then some ((z8U ns).map .int) else none
  | _=>none
theorem z8i {ds es : List D} (h : ((z1n ds).bind fun ns=>if ns.length < 64 then some ((z8U ns).map D.int) else none)=some es) : ∃ ns : List Int,ds=ns.map D.int∧ns.length < 64∧es=(z8U ns).map D.int:=by
  cases e : z1n ds with
  | none=>rw [e] at h; cases h
  | some ns=>
    rw [e,Option.bind_some] at h
    split at h
    · cases h
      exact ⟨ns,z4c e,by assumption,rfl⟩
    · cases h
theorem ol_sort {K : PySem.W.Frag} : OpL K (fun xs H Q=>∃ (p : Addr) (ns : List Int),xs=[.ref p]∧(SqL K H p (ns.map V.int)∨SqT K H p (ns.map V.int))∧ns.length < 64∧∀ l,H l=none->Q (.ref l) (upd H l (.lst ((z8U ns).map V.int)))) z8W:=by
  intro H B ds es vs Q hB hr q k
  unfold z8W at q
  split at q
  · obtain ⟨ns,rfl,h64,rfl⟩:=z8i q
    obtain ⟨v,rfl,r⟩:=z2Q hr
    unfold Rep at r
    obtain ⟨a,xs,rfl,_,h,rs⟩:=r
    have ex:=z3Y rs
    subst ex
    exact ⟨a,ns,rfl,.inl (SqL.of h),h64,fun l hl=>k l _ _ (z0p hl) hl z0m (z2h _)⟩
  · obtain ⟨ns,rfl,h64,rfl⟩:=z8i q
    obtain ⟨v,rfl,r⟩:=z2Q hr
    unfold Rep at r
    obtain ⟨a,xs,rfl,h,rs⟩:=r
    have ex:=z3Y rs
    subst ex
    exact ⟨a,ns,rfl,.inr h,h64,fun l hl=>k l _ _ (z0p hl) hl z0m (z2h _)⟩
  · cases q
variable {e : Expr} {f : DE} {p pos : Pos}
theorem z7L (hg : Gl X "sorted") (hm : X.mg "sorted" = none) (h : PD X e f) (he : starEach [e] X.env=[(false,eval e X.env)]:=by rfl) : PF X (.Call (.Name "sorted" p) [e] [] pos) (z2N z8W [f]):=
  (z4S z7Y hg hm boot_sorted (z0a h z0c he) (by decide) (by decide) he rfl).imp (callL ol_sort)
end
end L2

/-! ### E21: list(reversed(xs)),xs a list -/
namespace L2
open PySem PySem.Spec PyProof.Rows
section
variable {prog : Program} {w : World} {A : Around} {s : Shared} {R : Result->Shared->Prop}
variable {I : Addr} {fp wr : List Addr} {G : Array GenState->Array GenState->Prop} {n : Nat} {P : Nat->Value->Prop} {St : Nat->Shared->Prop}
end
section
variable {prog : Program} {w : World} {A : Around} {E : Value->Shared->Prop} {s : Shared}
end
section
variable {X : Cx}
def revF : List D->Option (List D)
  | [.lst ds]=>some ds.reverse
  | _=>none
end
end L2

/-! ### E22: an exception passes a frame: what is left as it was -/
namespace L2
open PySem PySem.Spec PyProof.Rows
/-- the exception at e of the class cls,its newest traceback entry at T -/
def Thr (h : Heap) (e T : Addr) (cls : Value) : Prop:=∃ oe vs oT ts,h.get? e=some oe∧oe.cls=cls∧oe.data = .fields vs∧vs[1]? = some (.ref T)∧T≠e∧h.get? T=some oT∧oT.data = .fields ts∧ts[3]? = some .none∧oe.dict=none
/-- a new exception,no traceback yet -/
def Thr0 (h : Heap) (e : Addr) (cls : Value) : Prop:=∃ oe vs,h.get? e=some oe∧oe.cls=cls∧oe.data = .fields vs∧vs[1]? = some .none∧oe.dict=none
structure Gone (S ch : List Addr) (e : Addr) (cls : Value) (h h' : Heap) : Prop where
  keep : ∀ b o,b ∉ S->b ∉ ch->h.get? b=some o->h'.get? b=some o
  slot : ∀ b o,b∈S->b ∉ ch->h.get? b=some o->∃ sl,h'.get? b=some { o with slots:=sl }
  there : ∀ b o,h.get? b=some o->∃ o',h'.get? b=some o'
  thr : ∃ T,h.objs.size≤T∧Thr h' e T cls
section
variable {M : Model} {A : Around} {E : Value->Shared->Prop} {s : Shared}
theorem y6U {o : Obj} {f : Array Value->Array Value} (h : o.dict=none) : (Obj.mapFields f o).dict=none:=by
  unfold Obj.mapFields
  split <;> exact h
theorem z9U {base : Heap} {env : Env} {outer : List Env} {L e : Addr} {oe : Obj} {vs : Array Value} {head : Value} {hadNext : Bool} {Q : Unit->Shared->Prop}
    (hfr : A.frames=some (env :: outer)) (hl : s.heap.FunFrames base (env :: outer)) (hf : env.frame=some L)
    (he : s.heap.get? e=some oe) (hd : oe.data = .fields vs) (hsz : 1 < vs.size) (hdn : oe.dict=none)
    (h : ∀ h',Gone (frs (env :: outer)) [e] e oe.cls s.heap h'->Q () { s with heap:=h' }) :
    wpAny M A (do let a ← frameOf env; let pl ← entryPlaceOf L hadNext; let b ← EntryCells.newEntry head a .none (rawInt L) .none pl; setField (.ref e) 1 b) (fun _ s'=>wpAny M A (setFlight (.ref e) none) Q E s') E s:=by
  have hene : e ∉ frs (env :: outer):=fun hm=>by
    obtain ⟨_,o,ho,hnf⟩:=hl.mem hm
    rw [he] at ho; injection ho with ho; subst ho; exact hnf vs hd
  refine wpAny_bind (wpAny_frameOf_fun hfr hl hf fun h₁ hs₁=>?_)
  refine wpAny_bind (wpAny_entryPlaceOf fun pl hpl=>?_)
  unfold EntryCells.newEntry newFields
  refine wpAny_bind (wpAny_newObj_type ?_ (hpl.sizeOk5 _ _ _ _ _))
  have he₁ : h₁.get? e=some oe:=(hs₁.2.1 e hene).trans he
  generalize hob : ({ cls:=.type "traceback",dict:=none,data:=.fields ([head,.ref L,.none,rawInt L,.none] ++ (if pl.isEmpty then List.replicate 6 Value.none else pl)).toArray } : Obj)=ob
  have hobd : ob.data = .fields ([head,.ref L,.none,rawInt L,.none] ++ (if pl.isEmpty then List.replicate 6 Value.none else pl)).toArray:=by rw [← hob]
  have hobf : ob.isFreed=false:=by rw [← hob]; rfl
  have he₂:=Heap.get?_push_of_some (h:=h₁) ob he₁
  refine wpAny_setField he₂ hd hsz ?_
  have hTe : h₁.objs.size≠e:=Nat.ne_of_gt (Heap.lt_size he₁)
  have hd₃:=Obj.data_mapFields hd (·.setIfInBounds 1 (Value.ref h₁.objs.size))
  have he₃:=Heap.get?_update_self (Obj.mapFields (·.setIfInBounds 1 (Value.ref h₁.objs.size))) he₂ (Obj.isFreed_of_fields hd₃)
  have hT₃:=(Heap.get?_update_other (h₁.push ob) (Obj.mapFields (·.setIfInBounds 1 (Value.ref h₁.objs.size))) (Ne.symm hTe)).trans (Heap.get?_push_size h₁ hobf)
  unfold setFlight
  refine wpAny_bind (wpAny_field he₃ hd₃ (x:=.ref h₁.objs.size) (by simp [hsz]) ?_)
  rw [if_pos (show (Value.ref h₁.objs.size != Value.none)=true from by simp)]
  refine wpAny_setField hT₃ hobd (by simp only [List.size_toArray,List.length_append,List.length_cons,List.length_nil] <;> omega) (h _ ?_)
  have keep : ∀ b o,b≠e->h₁.get? b=some o →
      (((h₁.push ob).update e (Obj.mapFields (·.setIfInBounds 1 (Value.ref h₁.objs.size)))).update h₁.objs.size (Obj.mapFields (·.setIfInBounds 3 ((none : Option Addr).elim Value.none fun f=>rawInt f)))).get? b=some o:=fun b o hbe hb=>by
    have hbT : h₁.objs.size≠b:=Nat.ne_of_gt (Heap.lt_size hb)
    rw [Heap.get?_update_other _ _ hbT,Heap.get?_update_other _ _ (Ne.symm hbe)]
    exact Heap.get?_push_of_some _ hb
  have heF : (((h₁.push ob).update e (Obj.mapFields (·.setIfInBounds 1 (Value.ref h₁.objs.size)))).update h₁.objs.size (Obj.mapFields (·.setIfInBounds 3 ((none : Option Addr).elim Value.none fun f=>rawInt f)))).get? e=some (Obj.mapFields (·.setIfInBounds 1 (Value.ref h₁.objs.size)) oe):=by
    rw [Heap.get?_update_other _ _ hTe]; exact he₃
  refine ⟨fun b o hb hc e1=>?_,fun b o hb hc e1=>?_,fun b o e1=>?_,h₁.objs.size,?_,?_⟩
  · exact keep b o (fun z=>hc (by simp [z])) ((hs₁.2.1 b hb).trans e1)
  · obtain ⟨sl,e2⟩:=hs₁.2.2 b o e1
    exact ⟨sl,keep b _ (fun z=>hc (by simp [z])) e2⟩
  · by_cases hb : b=e
    · exact ⟨Obj.mapFields (·.setIfInBounds 1 (Value.ref h₁.objs.size)) oe,by rw [hb]; exact heF⟩
    · obtain ⟨sl,e2⟩:=hs₁.2.2 b o e1
      exact ⟨_,keep b _ hb e2⟩
  · rw [hs₁.1]
    exact Nat.le_refl _
  · exact ⟨_,_,_,_,heF,Obj.cls_mapFields _ _,hd₃,by simp [hsz],hTe,Heap.get?_update_self _ hT₃ (Obj.isFreed_of_fields (Obj.data_mapFields hobd _)),Obj.data_mapFields hobd _,by first | (simp; done) | (rcases hpl with rfl | ⟨_,_,_,_,_,_,_,rfl⟩ <;> simp),y6U hdn⟩
theorem y0U {base : Heap} {env : Env} {outer : List Env} {L e : Addr} {cls : Value} {Q : Unit->Shared->Prop}
    (hfr : A.frames=some (env :: outer)) (hl : s.heap.FunFrames base (env :: outer)) (hf : env.frame=some L) (ht : Thr0 s.heap e cls)
    (h : ∀ h',Gone (frs (env :: outer)) [e] e cls s.heap h'->Q () { s with heap:=h' }) : wpAny M A (noteFrame (.ref e) env) (fun _ s'=>wpAny M A (setFlight (.ref e) none) Q E s') E s:=by
  obtain ⟨oe,vs,he,rfl,hd,h1,hdn⟩:=ht
  unfold noteFrame
  simp only [hf]
  refine wpAny_bind (wpAny_field he hd h1 ?_)
  rw [if_neg (by decide)]
  exact z9U hfr hl hf he hd (Array.getElem?_eq_some_iff.mp h1).1 hdn h
theorem z7S {base : Heap} {env : Env} {outer : List Env} {L e T : Addr} {cls : Value} {Q : Unit->Shared->Prop}
    (hfr : A.frames=some (env :: outer)) (hl : s.heap.FunFrames base (env :: outer)) (hf : env.frame=some L) (ht : Thr s.heap e T cls)
    (h : ∀ h',Gone (frs (env :: outer)) [e,T] e cls s.heap h'->Q () { s with heap:=h' }) : wpAny M A (noteFrame (.ref e) env) (fun _ s'=>wpAny M A (setFlight (.ref e) none) Q E s') E s:=by
  obtain ⟨oe,vs,oT,ts,he,rfl,hd,h1,hTe,hT,hdT,h3,hdn⟩:=ht
  unfold noteFrame
  simp only [hf]
  refine wpAny_bind (wpAny_field he hd h1 ?_)
  rw [if_pos (show (Value.ref T != Value.none)=true from by simp)]
  refine wpAny_bind (wpAny_field hT hdT h3 ?_)
  rw [if_neg (show ¬ ((Value.none == rawInt L)=true) from by simp [rawInt])]
  refine wpAny_bind (wpAny_setField hT hdT (Array.getElem?_eq_some_iff.mp h3).1 ?_)
  have other : ∀ b,b≠T->(s.heap.update T (Obj.mapFields (·.setIfInBounds 3 Value.none))).get? b=s.heap.get? b:=fun b hb=>Heap.get?_update_other _ _ (Ne.symm hb)
  have noRecord : ∀ b o,s.heap.get? b=some o->(∀ vs,o.data≠.fields vs)->b≠T:=fun b o hb hnf q=>by
    rw [q,hT] at hb; injection hb with hb; subst hb; exact hnf ts hdT
  refine z9U hfr (hl.of_keeps fun b o hb hnf=>⟨o,(other b (noRecord b o hb hnf)).trans hb,rfl⟩) hf ((other e (Ne.symm hTe)).trans he) hd (Array.getElem?_eq_some_iff.mp h1).1 hdn fun h' G=>h h' ?_
  refine ⟨fun b o hb hc e1=>G.keep b o hb (fun z=>hc (List.mem_cons.mpr (.inl (List.mem_singleton.mp z)))) ((other b fun z=>hc (by simp [z])).trans e1),fun b o hb hc e1=>G.slot b o hb (fun z=>hc (List.mem_cons.mpr (.inl (List.mem_singleton.mp z)))) ((other b fun z=>hc (by simp [z])).trans e1),fun b o e1=>?_,?_⟩
  · by_cases hb : b=T
    · have e2 : (s.heap.update T (Obj.mapFields (·.setIfInBounds 3 Value.none))).get? b=some (Obj.mapFields (·.setIfInBounds 3 Value.none) oT):=by
        rw [hb]
        exact Heap.get?_update_self _ hT (Obj.isFreed_of_fields (Obj.data_mapFields hdT _))
      exact G.there b _ e2
    · exact G.there b o ((other b hb).trans e1)
  · obtain ⟨T',h1,h2⟩:=G.thr
    exact ⟨T',by rwa [Heap.size_after_update] at h1,h2⟩
theorem z6o {env : Env} {e : Value} {Q : Unit->Shared->Prop} (h : wpAny M A (noteFrame e env) (fun _ s'=>wpAny M A (setFlight e none) Q E s') E s) : wpAny M A (leaving env e) Q E s:=by
  unfold leaving
  exact wpAny_bind h
end
end L2

/-! ### E23: an exception leaves a def,and passes its callers -/
namespace L2
open PySem PySem.Spec PyProof.Rows
theorem ObjOk.some {P : Program} {w : World} {H : Hp} {h : Heap} {a : Addr} {o : HO} (x : ObjOk P w H h a o) : ∃ ob,h.get? a=Option.some ob:=by
  cases q : h.get? a with
  | some ob=>exact ⟨ob,rfl⟩
  | none=>
    have y : ObjOk P w H h a o:=x
    induction o with
    | lst xs=>obtain ⟨_,_,_,_,e⟩:=x; rw [q] at e; cases e
    | tup xs=>obtain ⟨_,_,_,_,e,_⟩:=x; rw [q] at e; cases e
    | dK kvs=>obtain ⟨_,_,_,_,_,_,_,e,_⟩:=x; rw [q] at e; cases e
    | dT kvs=>obtain ⟨_,_,_,_,_,_,_,e,_⟩:=x; rw [q] at e; cases e
    | set S n=>obtain ⟨_,_,_,_,e,_⟩:=x; rw [q] at e; cases e
    | ins C dx fs=>obtain ⟨_,_,_,e,_⟩:=x; rw [q] at e; cases e
    | own y=>obtain ⟨_,e⟩:=x; rw [q] at e; cases e
    | xd fs=>obtain ⟨_,⟨_,_,_,e,_⟩,_⟩:=x; rw [q] at e; cases e
    | met f y=>have e:=x; unfold ObjOk at e; rw [q] at e; cases e
    | rng lo hi=>obtain ⟨_,_,_,e⟩:=x; rw [q] at e; cases e
    | frz ob u ih=>have e:=x.1; rw [q] at e; cases e
    | tbl ps=>have e:=x; unfold ObjOk at e; rw [q] at e; cases e
    | ext φ=>obtain ⟨_,⟨_,e⟩,_⟩:=x; rw [q] at e; cases e
section
variable {X : Cx} {pins : List (Addr × Obj)} {σ : St} {H : Hp} {s : Shared}
/-- a record of ours that is not tracked and was not there at the entry -/
def FpX (X : Cx) (pins : List (Addr × Obj)) (H : Hp) (b : Addr) : Prop:=
  H b=none∧b≠X.env.locals∧(b∈X.ex∨X.s₀.heap.get? b=none)∧(∀ x c,X.env.cells.lookup x=some c->c≠b)∧∀ p∈X.pn ++ pins,p.1≠b
theorem Inv.fpX {H' : Hp} {b : Addr} (I : Inv X pins σ H s) (hb : s.heap.get? b=none) (hn : H' b=none) : FpX X pins H' b:=by
  refine ⟨hn,fun z=>?_,?_,fun x c e z=>?_,fun p hp z=>?_⟩
  · obtain ⟨m,⟨o,_,_,ho,_⟩,_⟩:=I.loc
    rw [← z,hb] at ho
    cases ho
  · by_cases hx : b∈X.ex
    · exact .inl hx
    · refine .inr ?_
      cases q : X.s₀.heap.get? b with
      | none=>rfl
      | some o=>
        obtain ⟨o',e⟩:=I.base.there b o q hx
        rw [hb] at e
        cases e
  · obtain ⟨v,o,ho,_⟩:=I.cell x c e
    rw [z,hb] at ho
    cases ho
  · have:=(I.pin p hp).1
    rw [z,hb] at this
    cases this
theorem Inv.fresh0 {b : Addr} (I : Inv X pins σ H s) (hb : s.heap.get? b=none) : H b=none:=by
  cases q : H b with
  | none=>rfl
  | some u=>
    obtain ⟨o,e⟩:=(I.hok b u q).some
    rw [hb] at e
    cases e
theorem Inv.gone {ch : List Addr} {e : Addr} {cls : Value} {h' : Heap} (I : Inv X pins σ H s) (G : Gone (frs X.stack) ch e cls s.heap h') (hch : ∀ b∈ch,FpX X pins H b) : Inv X pins σ H { s with heap:=h' }:=by
  have nS : ∀ b u,H b=some u->b ∉ frs X.stack:=fun b u q z=>by rw [I.stkFree b z] at q; cases q
  have nC : ∀ b u,H b=some u->b ∉ ch:=fun b u q z=>by rw [(hch b z).1] at q; cases q
  have hok : HOk X.prog X.w H h':=fun b u q=>(I.hok b u q).stay (fun c v hc e=>by
    rcases hc with rfl | z
    · exact G.keep _ v (nS _ u q) (nC _ u q) e
    · exact G.keep c v (nS c _ z) (nC c _ z) e) (fun _ q=>q) fun _ _ q=>q
  have any : ∀ b o,b ∉ ch->s.heap.get? b=some o->∃ sl,h'.get? b=some { o with slots:=sl }:=fun b o hc q=>by
    by_cases hb : b∈frs X.stack
    · exact G.slot b o hb hc q
    · exact ⟨o.slots,G.keep b o hb hc q⟩
  have new : ∀ b o,X.s₀.heap.get? b=some o->b ∉ X.ex->b ∉ ch:=fun b o q hx z=>by
    rcases (hch b z).2.2.1 with y | y
    · exact hx y
    · rw [y] at q; cases q
  have kp : ∀ b o,b≠X.env.locals->b ∉ X.fs->b ∉ ch->s.heap.get? b=some o->h'.get? b=some o:=fun b o hL hb hc q=>
    G.keep b o (fun z=>(List.mem_cons.mp (I.stkSub b z)).elim hL hb) hc q
  have old : ∀ b o,X.s₀.heap.get? b=some o->b≠X.env.locals:=fun b o q=>Nat.ne_of_lt (Nat.lt_of_lt_of_le (Heap.lt_size q) I.ok.above)
  have cellK : ∀ x c,X.env.cells.lookup x=some c->∀ v,s.heap.IsCell c v->h'.IsCell c v:=fun x c q v ⟨o,ho,hd⟩=>by
    obtain ⟨sl,y⟩:=any c o (fun z=>(hch c z).2.2.2.1 x c q rfl) ho
    exact ⟨_,y,hd⟩
  refine ⟨I.ok,I.os,I.bare,⟨?_,?_,fun b o q n hx=>I.base.free b o q n hx,?_,I.base.tups,I.base.frzs,I.base.tbls⟩,?_,?_,I.free,I.freeC,?_,hok,I.len⟩
  · exact fun b o q n hb hx=>kp b o (old b o q) hb (new b o q hx) (I.base.keep b o q n hb hx)
  · intro b o q n hb hx
    obtain ⟨sl,q1⟩:=I.base.slot b o q n hb hx
    obtain ⟨sl',q2⟩:=any b _ (new b o q hx) q1
    exact ⟨sl',q2⟩
  · intro b o q hx
    obtain ⟨o',q1⟩:=I.base.there b o q hx
    exact G.there b o' q1
  · obtain ⟨m,⟨o,es,ep,ho,r⟩,hl⟩:=I.loc
    obtain ⟨sl,hL⟩:=any _ o (fun z=>(hch _ z).2.1 rfl) ho
    refine ⟨m,⟨_,es,ep,hL,r⟩,fun i x v e1 e2 e3=>?_⟩
    obtain ⟨u,r,l⟩:=hl i x v e1 e2 e3
    exact ⟨u,r,l.imp id fun ⟨k,c,q,z⟩=>⟨k,c,q,cellK x c q _ z⟩⟩
  · intro x c q
    obtain ⟨v,z⟩:=I.cell x c q
    exact ⟨v,cellK x c q v z⟩
  · intro p hp
    obtain ⟨q,n,ne,nf,d⟩:=I.pin p hp
    exact ⟨kp p.1 p.2 ne nf (fun z=>(hch p.1 z).2.2.2.2 p hp rfl) q,n,ne,nf,d⟩
end
/-- an exception behind a call: its object,its newest traceback entry (both new,neither tracked),its class -/
def CXE (P : Program) (w : World) : CXT:=fun outer H s E e s'=>∃ (ea T : Addr) (cls : Value) (H' : Hp),e = .ref ea∧s'.os=s.os∧AllBare s'.gens∧Un (frs outer) [] H H' s.heap s'.heap∧HOk P w H' s'.heap ∧
  s.heap.get? ea=none∧s.heap.get? T=none∧H' ea=none∧H' T=none∧Thr s'.heap ea T cls∧E cls none H'
section
variable {P : Program} {w : World} {K : PySem.W.Frag} {mg : Str->Option Value} {base : Heap} {N : List Str} {qual : Str} {scope : Scope} {f : Addr} {cd : Value} {A : Around} {outer : List Env} {s : Shared} {H : Hp} {E : XK}
/-- a new exception leaves the def in which it was raised -/
theorem y4E {pins : List (Addr × Obj)} {σ : St} {H1 : Hp} {s1 : Shared} {e : Addr} {cls : Value} (I : Inv (z8q (CXE P w) P w K mg base N qual scope f cd A outer s H E) pins σ H1 s1)
    (hf : FpX (z8q (CXE P w) P w K mg base N qual scope f cd A outer s H E) pins H1 e) (ht : Thr0 s1.heap e cls) (hE : E cls none H1) : (z8q (CXE P w) P w K mg base N qual scope f cd A outer s H E).xe (.ref e) s1:=by
  refine z6o (y0U (base:=base) (outer:=outer) I.ok.frames I.stack rfl ht fun h' G=>?_)
  have I':=I.gone G fun b hb=>by rw [List.mem_singleton.mp hb]; exact hf
  obtain ⟨T,hT,th⟩:=G.thr
  have he : s.heap.get? e=none:=by
    rcases hf.2.2.1 with z | z
    · exact absurd (show e∈([] : List Addr) from z) (by simp)
    · exact z
  exact ⟨e,T,cls,H1,rfl,I'.os,I'.bare,I'.base,I'.hok,he,Heap.get?_none_of_le (Nat.le_trans I.sz hT),hf.1,I.hok.fresh hT,th,hE⟩
end
end L2

/-! ### E24: raise C(e) -/
namespace L2
open PySem PySem.Spec PyProof.Rows
section
variable {X : Cx} {x : Str} {C : Addr} {B Bn newId nid initId inN : String} {bm bmN : List Value} {np cpos pos : Pos} {e₀ : Expr} {te : TE}
def tRaise (te : TE) (R : St->Hp->Prop) : TS:=fun _ σ H=>te σ H fun _ H1=>R σ H1
/-- what is wanted of a new exception of the class at C,where the slots and the heap are such that R -/
def Want (X : Cx) (C : Addr) (R : St->Hp->Prop) : Prop:=∀ (pins : List (Addr × Obj)) (σ : St) (H : Hp) (s : Shared) (e : Addr),Inv X pins σ H s->FpX X pins H e->Thr0 s.heap e (.ref C)->R σ H->X.xe (.ref e) s
theorem y6f {R : St->Hp->Prop} (hc : X.calm=true) (hg : Gl X x) (O : OwnCls x C bm newId X.mg X.base) (Fn : ExcBaseFacts Bn newId inN bmN) (hBn : bm.contains (.type Bn)=true) (FB : ExcBaseFacts B nid initId bm) (hW : Want X C R) (h : PE X e₀ te)
    (he : starEach [e₀] X.env=[(false,eval e₀ X.env)]:=by rfl) (hd : (x == ("__debug__" : Str))=false:=by decide) : PS X (.Raise (some (.Call (.Name x np) [e₀] [] cpos)) none pos) (tRaise te R):=by
  intro pins s σ H D I hq
  obtain ⟨tl,N,nm,q,bs,hdct,sn,sub,ab,col,dd,k0,k1,k2,k3,k5,mN,hC,hN,hni,T⟩:=O.obj
  refine wpAny_Raise_call_subU (C:=C) (nm:=nm) (q:=q) (N:=N) (bs:=bs) (bm:=tl) (hdct:=hdct) (sn:=sn) (sub:=sub) (ab:=ab) (col:=col) (dd:=dd) (k0:=k0) (k1:=k1) (k2:=k2) (k3:=k3) (k5:=k5)
    Fn hBn FB (mN:=mN) (T.hasType FB.hasBase) (I.ok.hd hc) (by rw [he]; rfl) hni (z5r I hg O.bound ⟨rfl,?_⟩ hd)
  have ha:=(z1o h pa_nil he) cpos pins s σ H (fun vs H1=>match vs with
    | [_]=>R σ H1
    | _=>False) I hq
  rw [he] at ha ⊢
  refine Calls.evalArgs_plain (thn ha fun us s2 ⟨vs,H2,I2,r2,q2⟩=>?_)
  cases r2 with
  | nil=>exact (show False from q2).elim
  | cons r r3=>
    cases r3 with
    | cons _ _=>exact (show False from q2).elim
    | nil=>
      refine ⟨rfl,by show 1≤sizeLine; rw [sizeLine_eq]; omega,I2.bk _ _ hC,hN.keeps I2.bk,T.keeps I2.bk,fun h' e hm=>?_⟩
      obtain ⟨t,he',_⟩:=hm.there
      have I3 : Inv X pins σ H2 { s2 with heap:=h' }:=I2.kept (t':=s2.toks) hm.keeps
      exact hW pins σ H2 _ e I3 (I2.fpX hm.new (I2.fresh0 hm.new)) ⟨_,_,he',rfl,rfl,rfl,rfl⟩ q2
variable {H0 : Hp} {B0 : Addr->Prop} {fr : Bool} {RX : XR}
def z3V (c : Nat) (f : DE) : SS->Option Out:=fun δ=>(f (z0o δ)).map fun _=>.ex c δ
theorem s_raise {c : Nat} {f : DE} (hc : X.calm=true) (hg : Gl X x) (O : OwnCls x C bm newId X.mg X.base) (Fn : ExcBaseFacts Bn newId inN bmN) (hBn : bm.contains (.type Bn)=true) (FB : ExcBaseFacts B nid initId bm) (hW : Want X C (RX c)) (h : PD X e₀ f)
    (he : starEach [e₀] X.env=[(false,eval e₀ X.env)]:=by rfl) (hd : (x == ("__debug__" : Str))=false:=by decide) : PS X (.Raise (some (.Call (.Name x np) [e₀] [] cpos)) none pos) (tS X.K H0 B0 fr RX (z3V c f)):=
  PS.imp (y6f hc hg O Fn hBn FB hW h he hd) fun D σ H ⟨δ,R,o,rs,q,k⟩=>by
    unfold z3V at q
    cases e : f (z0o δ) with
    | none=>rw [e] at q; cases q
    | some d=>
      rw [e] at q
      cases q
      exact ⟨noB,z0o δ,d,.no,rs.all,e,fun v H1 s1 r1=>k σ H1 R (rs.mono s1) (.same s1)⟩
end
end L2

/-! ### E25: defs that may raise -/
namespace L2
open PySem PySem.Spec PyProof.Rows
inductive XO where
  | val (d : D) | exc (c : Nat)
def spX (K : PySem.W.Frag) (cl : Nat->Value) (m : List D->Option XO) : Sp:=fun vs H Q E=>∃ ds o,Reps K H noB ds vs∧m ds=some o∧(match o with
  | .val d=>∀ v H' A,Same H H'->Tree K H' d v A->A.Nodup->(∀ a∈A,H a=none)->Q v H'
  | .exc c=>∀ H',Same H H'->E (cl c) none H')
def y0C (np nl : Nat) (g : SS->Option Out) : List D->Option XO:=fun ds=>if ds.length=np then (match g (ds.map (fun d=>some (.sh d)) ++ List.replicate nl none) with
  | some (.rt d)=>some (.val d)
  | some (.nx _)=>some (.val .non)
  | some (.ex c _)=>some (.exc c)
  | _=>none) else none
theorem z4M {np nl : Nat} {g : SS->Option Out} {ds : List D} {o : XO} (h : y0C np nl g ds=some o) : ds.length=np:=by
  unfold y0C at h
  split at h
  · assumption
  · cases h
/-- the wish of a def that may raise -/
abbrev y5F (cl : Nat->Value) (E : XK) : XR:=fun c _ H1=>E (cl c) none H1
section
variable {P : Program} {w : World} {K : PySem.W.Frag} {mg : Str->Option Value} {base : Heap}
theorem fnX {x qual : Str} {st : Stmt} {f : Addr} {fd : FuncData} {N ps : List Str} {k np nl : Nat} {g : SS->Option Out} {cl : Nat->Value} (F : Fun K x qual st f fd) (S : FnScope N ps (z0b st)) (hnp : ps.length=np) (hN : N.length=np + nl)
    (hbody : ∀ (cdv : Value) (A : Around) (outer : List Env) (s : Shared) (H : Hp) (E : XK),Room k (A.deeper (envOfC qual (z0b st) s.heap.objs.size f cdv)) →
      PSs (z8q (CXE P w) P w K mg base N qual (z0b st) f cdv A outer s H E) (z0n st) (tS K H noB true (y5F cl E) g)) : FnOk P w K mg base (CXE P w) (k + 1) f fd ps (spX K cl (y0C np nl g)):=by
  obtain ⟨oc,od,kV,doc,pm,an,cdv,ct,osl,rfl,lk,hcd⟩:=F.ex
  refine fn_of lk hcd S (fun vs H Q E h=>?_) fun A outer s H vs Q E hr h=>?_
  · obtain ⟨ds,o,r,e,_⟩:=h
    rw [← r.length,z4M e,hnp]
  · obtain ⟨ds,o,r,e,kk⟩:=h
    refine ⟨_,hbody cdv A outer s H E hr,?_⟩
    have hl:=z4M e
    unfold y0C at e
    rw [if_pos hl] at e
    have rs:=z3M (nl:=nl) .no r (N:=N) (by omega)
    split at e
    · rename_i d' eg
      cases e
      exact ⟨_,_,_,rs,eg,fun v H' z _=>by
        obtain ⟨A',t,nd,fr⟩:=z.2.1 rfl
        exact kk v H' A' z.1 t nd fr⟩
    · rename_i δ' eg
      cases e
      exact ⟨_,_,_,rs,eg,fun σ' H' R' rs' _=>kk .non H' [] rs'.keep ⟨rfl,rfl⟩ List.nodup_nil (fun a z=>nomatch z)⟩
    · rename_i c δ' eg
      cases e
      exact ⟨_,_,_,rs,eg,fun σ' H' R' rs' _=>kk H' rs'.keep⟩
    · cases e
structure DefX (P : Program) (w : World) (K : PySem.W.Frag) (mg : Str->Option Value) (base : Heap) (k : Nat) (x : Str) (sp : Sp) : Prop where
  ok : ∃ (f : Addr) (fd : FuncData) (ps : List Str),mg x=some (.ref f)∧PySem.W.keepIn K (.ref f)=true∧Binds K fd ps []∧FnOk P w K mg base (CXE P w) k f fd ps sp
/-- what is wanted of an exception that a callee lets pass -/
def XW (X : Cx) (cl : Nat->Value) (RX : XR) : Prop:=∀ (pins : List (Addr × Obj)) (σ : St) (H : Hp) (s : Shared) (ea T : Addr) (c : Nat),Inv X pins σ H s->FpX X pins H ea->FpX X pins H T->Thr s.heap ea T (cl c)->RX c σ H->X.xe (.ref ea) s
theorem xw_def {N : List Str} {qual : Str} {scope : Scope} {f : Addr} {cd : Value} {A : Around} {outer : List Env} {s : Shared} {H : Hp} {E : XK} {cl : Nat->Value} : XW (z8q (CXE P w) P w K mg base N qual scope f cd A outer s H E) cl (y5F cl E):=by
  intro pins σ H1 s1 ea T c I fe fT th hE
  refine z6o (z7S (base:=base) (outer:=outer) I.ok.frames I.stack rfl th fun h' G=>?_)
  have I':=I.gone G fun b hb=>by
    rcases List.mem_cons.mp hb with rfl | hb
    · exact fe
    · rw [List.mem_singleton.mp hb]; exact fT
  obtain ⟨T',hT,th'⟩:=G.thr
  have he : s.heap.get? ea=none:=by
    rcases fe.2.2.1 with z | z
    · exact absurd (show ea∈([] : List Addr) from z) (by simp)
    · exact z
  exact ⟨ea,T',cl c,H1,rfl,I'.os,I'.bare,I'.base,I'.hok,he,Heap.get?_none_of_le (Nat.le_trans I.sz hT),fe.1,I.hok.fresh hT,th',hE⟩
theorem z9j {N : List Str} {qual : Str} {scope : Scope} {f C : Addr} {cd : Value} {A : Around} {outer : List Env} {s : Shared} {H : Hp} {E : XK} {cl : Nat->Value} {c : Nat} (hc : cl c = .ref C) : Want (z8q (CXE P w) P w K mg base N qual scope f cd A outer s H E) C (y5F cl E c):=
  fun pins σ H1 s1 e I hf ht hE=>y4E I hf ht (by rw [← hc]; exact hE)
end
section
variable {X : Cx} {k : Nat} {f : Addr} {fd : FuncData} {ps : List Str} {sp : Sp} {cl : Nat->Value} {RX : XR}
theorem run_fnX {pins : List (Addr × Obj)} {σ : St} {H : Hp} {s : Shared} {Q : VK} {us : List Value} {vs : List V} (F : FnOk X.prog X.w X.K X.mg X.base (CXE X.prog X.w) k f fd ps sp) (hr : Room k X.A) (hb : Binds X.K fd ps []) (hW : XW X cl RX)
    (I : Inv X pins σ H s) (r : Vals vs us) (h : sp vs H Q (fun cls _ H'=>∃ c,cls=cl c∧RX c σ H')) : wpAny (model X.prog X.w) X.A (call (.ref f) us) (EP X pins σ Q) X.xe s:=by
  have hl : us.length=ps.length:=by rw [← r.length]; exact F.len _ _ _ _ h
  have hb':=hb s us I.kIn (by rw [List.append_nil]; exact hl)
  rw [List.append_nil] at hb'
  refine wpAny_call (codeAny_mono (F.run X.A X.stack s H ⟨us,[]⟩ us vs Q _ hr I.env0 hb' r h) fun r s' hq=>?_)
  cases r with
  | error e=>
    obtain ⟨ea,T,cls,H',rfl,os,bare,un,hok,h1,h2,h3,h4,th,c,rfl,rx⟩:=hq
    exact hW pins σ H' s' ea T c (I.call' os un hok bare fun b hb=>nomatch hb) (I.fpX h1 h3) (I.fpX h2 h4) th rx
  | ok fl=>
    cases fl with
    | ret u=>exact I.after hq
    | next=>exact False.elim hq
    | brk=>exact False.elim hq
    | cont=>exact False.elim hq
end
end L2

/-! ### E26: a call that may raise,as a whole statement -/
namespace L2
open PySem PySem.Spec PyProof.Rows
section
variable {X : Cx} {k : Nat} {sp : Sp} {cl : Nat->Value} {RX : XR} {x : Str} {p pos pos2 : Pos} {e : Expr} {es : List Expr} {t : TA}
def tCallX (cl : Nat->Value) (RX : XR) (sp : Sp) (t : TA) : TE:=fun σ H Q=>t σ H fun vs H1=>sp vs H1 Q fun cls _ H'=>∃ c,cls=cl c∧RX c σ H'
theorem z9V (G : DefX X.prog X.w X.K X.mg X.base k x sp) (hr : Room k X.A) (hg : Gl X x) (hW : XW X cl RX) (ha : PA X (e :: es) t) (hdb : (x == ("__debug__" : Str))=false:=by decide)
    (he : starEach (e :: es) X.env=(false,eval e X.env) :: starEach es X.env:=by rfl) (hpl : (backTo pos (starEach es X.env)).any (·.1)=false:=by rfl) : PE X (.Call (.Name x p) (e :: es) [] pos) (tCallX cl RX sp t):=by
  obtain ⟨f,fd,ps,hm,hk,hb,ok⟩:=G.ok
  intro pins s σ H Q I h
  refine wpAny_Call_Name_kw (z5r I hg hm ?_ hdb)
  refine PySem.W.callWith_K (h₀:=X.base) I.ok.mod.kin hk (thn (ha pos pins s σ H _ I h) fun us s1 ⟨vs,H1,I1,r,q⟩=>⟨I1.kIn,?_⟩) he hpl
  exact run_fnX ok hr hb hW I1 r q
/-- the reading of such a call by trees -/
def tX (K : PySem.W.Frag) (RX : XR) (F : DS->Option XO) : TE:=fun σ H Q=>∃ δ o,RepS K H noB σ δ∧F δ=some o∧(match o with
  | .val d=>∀ v H' A,Same H H'->Tree K H' d v A->A.Nodup->(∀ a∈A,H a=none)->Q v H'
  | .exc c=>∀ H',Same H H'->RX c σ H')
def z4d (m : List D->Option XO) (fl : List DE) : DS->Option XO:=fun δ=>(z0j fl δ).bind m
theorem px_call {m : List D->Option XO} {fl : List DE} (G : DefX X.prog X.w X.K X.mg X.base k x (spX X.K cl m)) (hr : Room k X.A) (hg : Gl X x) (hW : XW X cl RX) (ha : PAD X (e :: es) fl) (hdb : (x == ("__debug__" : Str))=false:=by decide)
    (he : starEach (e :: es) X.env=(false,eval e X.env) :: starEach es X.env:=by rfl) (hpl : (backTo pos (starEach es X.env)).any (·.1)=false:=by rfl) : PE X (.Call (.Name x p) (e :: es) [] pos) (tX X.K RX (z4d m fl)):=
  (z9V G hr hg hW ha hdb he hpl).imp fun σ H Q ⟨δ,o,S,q,kk⟩=>by
    unfold z4d at q
    cases e1 : z0j fl δ with
    | none=>rw [e1] at q; cases q
    | some ds=>
      rw [e1,Option.bind_some] at q
      refine ⟨noB,δ,ds,.no,S,e1,fun vs H1 s1 r1=>⟨ds,o,r1,q,?_⟩⟩
      cases o with
      | val d=>exact fun v H' A s' t nd fr=>kk v H' A (s1.trans s') t nd fun a ha=>s1.free (fr a ha)
      | exc c=>exact fun H' s'=>⟨c,rfl,kk H' (s1.trans s')⟩
variable {H0 : Hp} {B0 : Addr->Prop} {fr : Bool} {F : DS->Option XO}
def retX (F : DS->Option XO) : SS->Option Out:=fun δ=>(F (z0o δ)).map fun o=>match o with
  | .val d=>.rt d
  | .exc c=>.ex c δ
def z7B (F : DS->Option XO) : SS->Option Out:=fun δ=>(F (z0o δ)).map fun o=>match o with
  | .val _=>.nx δ
  | .exc c=>.ex c δ
def asgX (i : Nat) (F : DS->Option XO) : SS->Option Out:=fun δ=>(F (z0o δ)).map fun o=>match o with
  | .val d=>.nx (δ.set i (some (.ow d)))
  | .exc c=>.ex c δ
theorem s_exprX (h : PE X e (tX X.K RX F)) (hs : swapsWith e none pos.line X.env=pure false:=by rfl) : PS X (.Expr e pos) (tS X.K H0 B0 fr RX (z7B F)):=PS.imp (z5c h hs) fun D σ H ⟨δ,R,o,rs,q,k⟩=>by
  unfold z7B at q
  cases e1 : F (z0o δ) with
  | none=>rw [e1] at q; cases q
  | some o1=>
    rw [e1] at q
    refine ⟨z0o δ,o1,rs.all,e1,?_⟩
    cases o1 with
    | val d=>
      cases q
      exact fun v H' A s t nd fr'=>k σ H' R (rs.mono s) (Stp.same s)
    | exc c=>
      cases q
      exact fun H' s=>k σ H' R (rs.mono s) (.same s)
end
end L2

/-! ### E27: except C: suite -/
namespace L2
open PySem PySem.Spec PyProof.Rows
/-- within an except suite; no exception leaves it -/
abbrev Cx.suite (X : Cx) (e : Value) : Cx:={ X with A:=X.A.mark (some e),calm:=false,xe:=fun _ _=>False }
section
variable {X : Cx} {pins : List (Addr × Obj)} {σ : St} {H : Hp} {s : Shared} {e : Value}
theorem Cx.Ok.suite (ok : X.Ok) (e : Value) : (X.suite e).Ok:=
  ⟨ok.mod,ok.kind,ok.glob,ok.blt,ok.above,ok.inj,ok.has,ok.cab,(fun z=>Bool.noConfusion z),ok.frames,ok.stk,ok.exf,ok.bs,ok.bsz,ok.noex,ok.exfs,ok.funs,ok.frf⟩
theorem Cx.Ok.unsuite (ok : X.Ok) (o2 : (X.suite e).Ok) : X.Ok:=ok
theorem Inv.suite (I : Inv X pins σ H s) (e : Value) : Inv (X.suite e) pins σ H s:=⟨I.ok.suite e,I.os,I.bare,I.base,I.loc,I.cell,I.free,I.freeC,I.pin,I.hok,I.len⟩
theorem Inv.unsuite (ok : X.Ok) (I : Inv (X.suite e) pins σ H s) : Inv X pins σ H s:=⟨ok,I.os,I.bare,I.base,I.loc,I.cell,I.free,I.freeC,I.pin,I.hok,I.len⟩
theorem SP.unsuite {D : Ends} {f : Flow} {s' : Shared} (ok : X.Ok) (h : SP (X.suite e) pins D f s') : SP X pins D f s':=by
  cases f with
  | next=>obtain ⟨σ',H',I,q⟩:=h; exact ⟨σ',H',I.unsuite ok,q⟩
  | brk=>obtain ⟨σ',H',I,q⟩:=h; exact ⟨σ',H',I.unsuite ok,q⟩
  | cont=>obtain ⟨σ',H',I,q⟩:=h; exact ⟨σ',H',I.unsuite ok,q⟩
  | ret u=>obtain ⟨v,σ',H',I,r,q⟩:=h; exact ⟨v,σ',H',I.unsuite ok,r,q⟩
end
theorem z8z {M : Model} {A : Around} {E : Value->Shared->Prop} {s : Shared} {e T : Addr} {cls : Value} {Q : Unit->Shared->Prop} (th : Thr s.heap e T cls) (h : ∀ h',(∀ b o,s.heap.get? b=some o->h'.get? b=some o)->Q () { s with heap:=h' }) : wpAny M A (setFlight (.ref e) none) Q E s:=by
  obtain ⟨oe,vs,oT,ts,he,_,hd,h1,hTe,hT,hdT,h3,hdn⟩:=th
  unfold setFlight
  refine wpAny_bind (wpAny_field he hd h1 ?_)
  rw [if_pos (show (Value.ref T != Value.none)=true from by simp)]
  refine wpAny_setField hT hdT (Array.getElem?_eq_some_iff.mp h3).1 (h _ fun b o q=>?_)
  by_cases hb : b=T
  · subst hb
    rw [hT] at q
    cases q
    have e1:=Heap.get?_update_self (Obj.mapFields (·.setIfInBounds 3 ((none : Option Addr).elim Value.none fun f=>rawInt f))) hT (Obj.isFreed_of_fields (Obj.data_mapFields hdT _))
    rw [e1]
    congr 1
    obtain ⟨c,d,dt,sl⟩:=oT
    have hdT : dt = .fields ts:=hdT
    subst hdT
    obtain ⟨hlt,h3⟩:=Array.getElem?_eq_some_iff.mp h3
    have z : ts.setIfInBounds 3 Value.none=ts:=by
      apply Array.ext_getElem?
      intro i
      by_cases hi : 3=i
      · subst hi
        rw [Array.getElem?_setIfInBounds_self_of_lt hlt,Array.getElem?_eq_getElem hlt,h3]
      · rw [Array.getElem?_setIfInBounds_ne hi]
    show Obj.mk c d (.fields (ts.setIfInBounds 3 Value.none)) sl=_
    rw [z]
  · exact (Heap.get?_update_other _ _ (Ne.symm hb)).trans q
section
variable {X : Cx} {cls : Value} {x : Str} {C : Addr} {np hpos : Pos} {b₀ : Stmt} {suite : List Stmt} {rest : List ExceptHandler} {t : TS}
def PH (X : Cx) (hs : List ExceptHandler) (cls : Value) (t : TS) : Prop:=∀ (pins : List (Addr × Obj)) (s : Shared) (σ : St) (H : Hp) (D : Ends) (ea T : Addr),Inv X pins σ H s->FpX X pins H ea->Thr s.heap ea T cls->t D σ H->wpAny (model X.prog X.w) X.A (handleBy (.ref ea) X.env hs) (SP X pins D) X.xe s
theorem thr_ty {M : Model} {h : Heap} {ea T : Addr} (th : Thr h ea T cls) : PySem.W.Looks M h (typeOf (.ref ea)) cls:=by
  obtain ⟨oe,vs,oT,ts,he,rfl,_⟩:=th
  exact (PySem.W.Looks.ld he).andThen .now
end
end L2

/-! ### E28: try: .. except ..: -/
namespace L2
open PySem PySem.Spec PyProof.Rows
/-- the body of a try: its pins are the context's,its exceptions go to xe -/
abbrev Cx.tried (X : Cx) (pn : List (Addr × Obj)) (xe : Value->Shared->Prop) : Cx:={ X with pn:=pn,xe:=xe }
section
variable {X : Cx} {pins pn : List (Addr × Obj)} {xe : Value->Shared->Prop} {σ : St} {H : Hp} {s : Shared}
theorem Cx.Ok.tried (ok : X.Ok) : (X.tried pn xe).Ok:=
  ⟨ok.mod,ok.kind,ok.glob,ok.blt,ok.above,ok.inj,ok.has,ok.cab,ok.hd,ok.frames,ok.stk,ok.exf,ok.bs,ok.bsz,ok.noex,ok.exfs,ok.funs,ok.frf⟩
theorem Inv.tried (I : Inv X pins σ H s) : Inv (X.tried (X.pn ++ pins) xe) [] σ H s:=⟨I.ok.tried,I.os,I.bare,I.base,I.loc,I.cell,I.free,I.freeC,fun p hp=>I.pin p (by simpa using hp),I.hok,I.len⟩
theorem Inv.untried {more : List (Addr × Obj)} (ok : X.Ok) (I : Inv (X.tried (X.pn ++ pins) xe) more σ H s) : Inv X pins σ H s:=⟨ok,I.os,I.bare,I.base,I.loc,I.cell,I.free,I.freeC,fun p hp=>I.pin p (List.mem_append.mpr (.inl hp)),I.hok,I.len⟩
theorem FpX.untried {more : List (Addr × Obj)} {b : Addr} (h : FpX (X.tried (X.pn ++ pins) xe) more H b) : FpX X pins H b:=⟨h.1,h.2.1,h.2.2.1,h.2.2.2.1,fun p hp=>h.2.2.2.2 p (List.mem_append.mpr (.inl hp))⟩
theorem SP.untried {more : List (Addr × Obj)} {D : Ends} {f : Flow} {s' : Shared} (ok : X.Ok) (h : SP (X.tried (X.pn ++ pins) xe) more D f s') : SP X pins D f s':=by
  cases f with
  | next=>obtain ⟨σ',H',I,q⟩:=h; exact ⟨σ',H',I.untried ok,q⟩
  | brk=>obtain ⟨σ',H',I,q⟩:=h; exact ⟨σ',H',I.untried ok,q⟩
  | cont=>obtain ⟨σ',H',I,q⟩:=h; exact ⟨σ',H',I.untried ok,q⟩
  | ret u=>obtain ⟨v,σ',H',I,r,q⟩:=h; exact ⟨v,σ',H',I.untried ok,r,q⟩
end
def tryO (gb : SS->Option Out) (gh : Nat->SS->Option Out) : SS->Option Out:=fun δ=>(gb δ).bind fun o=>match o with
  | .nx δ'=>some (.nx δ')
  | .ct δ'=>some (.ct δ')
  | .bk δ'=>some (.bk δ')
  | .rt d=>some (.rt d)
  | .ex c δ'=>gh c δ'
section
variable {X : Cx} {H0 : Hp} {B0 : Addr->Prop} {fr : Bool} {RX : XR} {cl : Nat->Value} {body : List Stmt} {h₀ : ExceptHandler} {hs : List ExceptHandler} {pos : Pos}
theorem z9Q {g : SS->Option Out} {cls : Value} (hg : ∀ δ,g δ=none) {ks : List ExceptHandler} : PH X ks cls (tS X.K H0 B0 fr RX g):=by
  intro pins s σ H D ea T I fe th ⟨δ,R,o,_,q,_⟩
  rw [hg] at q
  cases q
theorem s_try {gb : SS->Option Out} {gh : Nat->SS->Option Out} (hst : X.stack=X.env :: X.outer) (hfr : X.env.frame=some X.env.locals)
    (hb : ∀ (pn : List (Addr × Obj)) (xe : Value->Shared->Prop) (RX' : XR),XW (X.tried pn xe) cl RX'->PSs (X.tried pn xe) body (tS X.K H0 B0 fr RX' gb))
    (hh : ∀ c,PH X (h₀ :: hs) (cl c) (tS X.K H0 B0 fr RX (gh c))) : PS X (.Try body (h₀ :: hs) [] [] pos) (tS X.K H0 B0 fr RX (tryO gb gh)):=by
  intro pins s σ H D I ⟨δ,R,o,rs,q,k⟩
  unfold tryO at q
  cases e1 : gb δ with
  | none=>rw [e1] at q; cases q
  | some o1=>
    rw [e1,Option.bind_some] at q
    refine wpAny_Try_except ?_
    have ok:=I.ok
    let XE : Value->Shared->Prop:=fun e s₁=>wpAny (model X.prog X.w) X.A (noteFrame e X.env) (fun _ s₂=>wpAny (model X.prog X.w) X.A (setFlight e none) (fun _ s₃=>wpAny (model X.prog X.w) X.A (handleBy e X.env (h₀ :: hs)) (SP X pins D) X.xe s₃) X.xe s₂) X.xe s₁
    have hW : XW (X.tried (X.pn ++ pins) XE) cl (fun c σ' H'=>tS X.K H0 B0 fr RX (gh c) D σ' H'):=by
      intro pins' σ' H' s' ea T c I' fe fT th hR
      have I2 : Inv X pins σ' H' s':=I'.untried ok
      have hf2:=ok.frames
      have hs2:=I2.stack
      rw [hst] at hf2 hs2
      refine z7S (base:=X.base) (outer:=X.outer) hf2 hs2 hfr th fun h' G=>?_
      rw [← hst] at G
      have I3:=I2.gone G fun b hb=>by
        rcases List.mem_cons.mp hb with rfl | hb
        · exact fe.untried
        · rw [List.mem_singleton.mp hb]; exact fT.untried
      obtain ⟨T',_,th'⟩:=G.thr
      exact hh c pins _ σ' H' D ea T' I3 fe.untried th' hR
    have run:=hb (X.pn ++ pins) XE _ hW [] s σ H D I.tried ⟨δ,R,o1,rs,e1,by
      cases o1 with
      | nx δ'=>cases q; exact k
      | ct δ'=>cases q; exact k
      | bk δ'=>cases q; exact k
      | rt d=>cases q; exact k
      | ex c δ'=>exact fun σ' H' R' rs' s'=>⟨δ',R',o,rs',q,k.back s'⟩⟩
    refine wpAny_mono run (fun f s₁ z=>?_) fun _ _ z=>z
    have z:=z.untried ok
    cases f with
    | next=>exact wpAny_execs_nil z
    | brk=>exact z
    | cont=>exact z
    | ret u=>exact z
end
end L2

/-! ### E29: x=y,where y owns its list and is not read again ahead of its next assignment -/
namespace L2
open PySem PySem.Spec PyProof.Rows
section
variable {K : PySem.W.Frag} {H0 H : Hp} {B0 : Addr->Prop} {σ : St} {δ : SS} {R : Nat->List Addr}
def movS (i j : Nat) (d : D) (δ : SS) : SS:=((z0x j δ).set j none).set i (some (.ow d))
end
section
variable {X : Cx} {H0 : Hp} {B0 : Addr->Prop} {fr : Bool} {RX : XR} {pos : Pos} {st : Stmt}
def movO (i j : Nat) : SS->Option Out:=fun δ=>match δ[j]? with
  | some (some (.ow d))=>some (.nx (movS i j d δ))
  | _=>none
end
end L2

/-! ### E30: for x in reversed(xs),xs a list; a def that is never come to -/
namespace L2
open PySem PySem.Spec PyProof.Rows
section
variable {X : Cx}
end
def revS : D->Option (List D)
  | .lst ds=>some ds.reverse
  | _=>none
def dRevS (f : DE) : DS->Option (List D):=fun δ=>(f δ).bind revS
section
variable {X : Cx}
end
end L2

/-! ### E31: loops that only look: for x in xs: if ..: return .. (xs may be owned,and stays so) -/
namespace L2
open PySem PySem.Spec PyProof.Rows
def chkIf (fc : DS->Option Bool) (fe : DE) : DS->Option (Option D):=fun δ=>(fc δ).bind fun b=>if b=true then (fe δ).bind fun d=>if d.imm=true then some (some d) else none else some none
def y7T (f g : DS->Option (Option D)) : DS->Option (Option D):=fun δ=>(f δ).bind fun o=>match o with
  | none=>g δ
  | some d=>some (some d)
section
variable {X : Cx} {c e : Expr} {fc : DS->Option Bool} {fe : DE} {f g : DS->Option (Option D)} {st : Stmt} {sts : List Stmt} {p1 pos : Pos}
end
def chkD (i : Nat) (fb : DS->Option (Option D)) : List D->SS->Option Out
  | [],δ=>some (.nx δ)
  | x :: r,δ=>(fb (z0o (δ.set i (some (.sh x))))).bind fun o=>match o with
    | none=>chkD i fb r (δ.set i (some (.sh x)))
    | some d=>if d.imm=true then some (.rt d) else none
def forC (i : Nat) (fi : DS->Option (List D)) (fb : DS->Option (Option D)) : SS->Option Out:=fun δ=>(fi (z0o δ)).bind fun ds=>if z1l ds=true then chkD i fb ds δ else none
section
variable {X : Cx} {H0 : Hp} {B0 : Addr->Prop} {fr : Bool} {RX : XR} {pos : Pos}
end
end L2

/-! ### E32: classes of the program under ValueError -/
namespace L2
open PySem PySem.Spec PyProof.Rows
abbrev bmVE : List Value:=[.type "ValueError",.type "Exception",.type "BaseException",.type "object"]
theorem y3K {K : PySem.W.Frag} {h : Heap} {mg : Str->Option Value} {x : Str} {C : Addr} {bl : List Value} {nid : String} (X : K.In h) (G : h.Ns mainGlobals mg) (ha : PySem.W.nsIn K mainGlobals x=some (some (.ref C))) (hq : PySem.W.excIn K C bl nid=true) : OwnCls x C bl nid mg h:=by
  refine ⟨PySem.W.mg_of X G ha,?_⟩
  unfold PySem.W.excIn at hq
  cases hk : K.lookup C with
  | none=>rw [hk] at hq; cases hq
  | some ob=>
    rw [hk] at hq
    have hat:=X _ _ hk
    split at hq
    case h_2=>cases hq
    case h_1 od cls sl z=>
      cases z
      split at hq
      case h_2=>cases hq
      case h_1 C1 tl b0 b1 b2 b3 n b5 em es=>
        simp only [Bool.and_eq_true,beq_iff_eq,Bool.not_eq_true'] at hq
        obtain ⟨⟨⟨⟨⟨z1,z2⟩,z3⟩,z4⟩,z5⟩,z6⟩:=hq
        cases cls with
        | mk nm bs mro ns qn hd sn sub ab col del=>
          cases sl with
          | mk l=>
            dsimp only at em es z3 z5 z6
            rw [em,es,z3,z1,z2] at hat
            exact ⟨tl,ns,nm,qn,bs,hd,sn,sub,ab,col,od,b0,b1,b2,b3,b5,_,hat,.of_isNs (PySem.W.isNs_of_in X z5),PySem.W.nsMap_none_of_in X z5 z6,PySem.W.tail_of_in X z4⟩
section
variable {X : Cx} {x : Str} {C : Addr} {np cpos pos : Pos} {e₀ : Expr} {H0 : Hp} {B0 : Addr->Prop} {fr : Bool} {RX : XR}
theorem z9p {c : Nat} {f : DE} (hc : X.calm=true) (hg : Gl X x) (O : OwnCls x C bmVE "ValueError.__new__" X.mg X.base) (hW : Want X C (RX c)) (h : PD X e₀ f)
    (he : starEach [e₀] X.env=[(false,eval e₀ X.env)]:=by rfl) (hd : (x == ("__debug__" : Str))=false:=by decide) : PS X (.Raise (some (.Call (.Name x np) [e₀] [] cpos)) none pos) (tS X.K H0 B0 fr RX (z3V c f)):=
  s_raise hc hg O PySem.F.excBase_ValueError (by decide) PySem.F.excBase_ValueError hW h he hd
end
end L2

/-! ### E33: a call that may raise,where it does not -/
namespace L2
open PySem PySem.Spec PyProof.Rows
def valO : Option XO->Option D
  | some (.val d)=>some d
  | _=>none
def z8v (m : List D->Option XO) (fl : List DE) : DE:=fun δ=>valO (z4d m fl δ)
section
variable {X : Cx} {k : Nat} {cl : Nat->Value} {x : Str} {p pos : Pos} {e : Expr} {es : List Expr}
theorem xw_no : XW X cl noX:=fun _ _ _ _ _ _ _ _ _ _ _ h=>h.elim
end
end L2

/-! ### E34: except C as e; isinstance(e,C) -/
namespace L2
open PySem PySem.Spec PyProof.Rows
section
variable {X : Cx} {pins : List (Addr × Obj)} {σ : St} {H : Hp} {s : Shared}
/-- an object of ours that was not tracked comes to be -/
theorem Inv.adopt {a : Addr} {u : HO} (I : Inv X pins σ H s) (fa : FpX X pins H a) (new : ObjOk X.prog X.w (upd H a u) s.heap a u) : Inv X pins σ (upd H a u) s:=by
  have ne : ∀ b w,H b=some w->b≠a:=fun b w q z=>by rw [z,fa.1] at q; cases q
  have up : ∀ b w,H b=some w->upd H a u b=some w:=fun b w q=>by rw [z0s (ne b w q)]; exact q
  have dn : ∀ b,b≠a->H b=none->upd H a u b=none:=fun b hb q=>by rw [z0s hb]; exact q
  refine ⟨I.ok,I.os,I.bare,⟨I.base.keep,I.base.slot,fun b o q n hx=>dn b (fun z=>?_) (I.base.free b o q n hx),I.base.there,fun b xs q=>up b _ (I.base.tups b xs q),fun b o w q=>up b _ (I.base.frzs b o w q),fun b ps q=>?_⟩,I.loc,I.cell,dn _ (Ne.symm fa.2.1) I.free,fun x c q=>dn c (fa.2.2.2.1 x c q) (I.freeC x c q),fun p hp=>?_,fun b w q=>?_,I.len⟩
  · rcases fa.2.2.1 with y | y
    · exact hx (z ▸ y)
    · rw [z,y] at q; cases q
  · obtain ⟨more,q'⟩:=I.base.tbls b ps q
    exact ⟨more,up b _ q'⟩
  · obtain ⟨e1,e2,e3⟩:=I.pin p hp
    exact ⟨e1,dn p.1 (fa.2.2.2.2 p hp) e2,e3⟩
  · by_cases hb : b=a
    · subst hb
      rw [z0m] at q
      cases q
      exact new
    · rw [z0s hb] at q
      exact (I.hok b w q).stay (fun _ _ _ e=>e) (fun c z=>up c _ z) fun c xs z=>up c _ z
/-- a local name goes -/
theorem z6M {M : Model} {A : Around} {E : Value->Shared->Prop} {i : Nat} {x : Str} {pos : Pos} {Q : Unit->Shared->Prop} (I : Inv X pins σ H s) (hN : X.N.Nodup) (hi : X.N[i]? = some x) (hk : X.env.scope.names.lookup x=some .local)
    (h : ∀ s',Inv X pins (σ.set i none) H s'->Q () s') : wpAny M A (do bindName X.env x .none; unbindBehindTheSuite X.env x pos) Q E s:=by
  obtain ⟨m,hn,hl⟩:=id I.loc
  have hcl : (X.env.scope.kind == .class || (X.env.scope.kind == .module && X.env.locals != X.env.globals))=false:=by rw [I.ok.kind]; rfl
  refine wpAny_nameGoes_keeps hk hn hcl fun g v hg hs=>h _ ?_
  have old : ∀ b o,X.s₀.heap.get? b=some o->b≠X.env.locals:=fun b o q=>Nat.ne_of_lt (Nat.lt_of_lt_of_le (Heap.lt_size q) I.ok.above)
  refine ⟨I.ok,I.os,I.bare,⟨fun b o q n hb hx=>(hs.2 b (old b o q)).trans (I.base.keep b o q n hb hx),fun b o q n hb hx=>?_,I.base.free,fun b o q hx=>?_,I.base.tups,I.base.frzs,I.base.tbls⟩,⟨_,hg,fun j y w e1 e2 e3=>?_⟩,fun y c q=>?_,I.free,I.freeC,fun p hp=>?_,fun b w q=>?_,by simpa using I.len⟩
  · obtain ⟨sl,q1⟩:=I.base.slot b o q n hb hx
    exact ⟨sl,(hs.2 b (old b o q)).trans q1⟩
  · obtain ⟨o',q1⟩:=I.base.there b o q hx
    exact ⟨o',(hs.2 b (old b o q)).trans q1⟩
  · have hji : j≠i:=fun z=>by
      subst z
      rw [List.getElem?_set] at e2
      simp only [if_true] at e2
      split at e2 <;> cases e2
    rw [List.getElem?_set_ne (Ne.symm hji)] at e2
    obtain ⟨u',r',q⟩:=hl j y w e1 e2 e3
    refine ⟨u',r',?_⟩
    have hyx : y≠x:=fun z=>hji (z6S hN e1 (z ▸ hi))
    rcases q with ⟨k,q⟩ | ⟨k,c,q,z⟩
    · exact .inl ⟨k,by simp [hyx,q]⟩
    · exact .inr ⟨k,c,q,z.sameBut hs (I.cne y c q)⟩
  · obtain ⟨w',z⟩:=I.cell y c q
    exact ⟨w',z.sameBut hs (I.cne y c q)⟩
  · obtain ⟨q,n,ne,nf,d⟩:=I.pin p hp
    exact ⟨(hs.2 p.1 ne).trans q,n,ne,nf,d⟩
  · refine (I.hok b w q).stay (fun c o hc e=>(hs.2 c fun z=>?_).trans e) (fun _ z=>z) fun _ _ z=>z
    subst z
    rcases hc with z | z
    · rw [← z,I.free] at q; cases q
    · rw [I.free] at z; cases z
end
/-- a suite that has the exception under a name -/
def tAs (i : Nat) (C : Addr) (t : TS) : TS:=fun D σ H=>∀ a,H a=none->t ⟨fun σ' H'=>D.nx (σ'.set i none) H',D.rt,fun σ' H'=>D.bk (σ'.set i none) H',fun σ' H'=>D.ct (σ'.set i none) H'⟩ (σ.set i (some (.ref a))) (upd H a (.ext (isX a C)))
section
variable {X : Cx} {x n : Str} {C Ca : Addr} {np hpos : Pos} {b₀ : Stmt} {suite : List Stmt} {rest : List ExceptHandler} {t : TS} {i : Nat}
theorem ph_as (hg : Gl X x) (hm : X.mg x=some (.ref C)) (hx : PySem.W.exmOne X.K (.ref Ca) (.ref C)=some true) (hN : X.N.Nodup) (hi : X.N[i]? = some n) (hk : X.env.scope.names.lookup n=some .local) (hb : ∀ e,PSs (X.suite e) (b₀ :: suite) t) (hdb : (x == ("__debug__" : Str))=false:=by decide) :
    PH X (.ExceptHandler (some (.Name x np)) (some n) (b₀ :: suite) hpos :: rest) (.ref Ca) (tAs i Ca t):=by
  intro pins s σ H D ea T I fe th h
  refine wpAny_handleBy_cons (codeAny_handlers_test (z5r (I.suite (.ref ea)) hg hm ?_ hdb)) (by intro q; cases q)
  refine (PySem.W.exm_one I.kIn (thr_ty th) hx).here ?_
  obtain ⟨oe,vs,oT,ts,he,hc,hd,_,_,_,_,_,hdn⟩:=id th
  refine codeAny_handlers_suite_as (z8z th fun h' kp=>?_)
  have I1 : Inv X pins σ H { s with heap:=h' }:=I.kept (t':=s.toks) kp
  have hO : ObjOk X.prog X.w (upd H ea (.ext (isX ea Ca))) h' ea (.ext (isX ea Ca)):=by
    refine ⟨⟨oe,kp _ _ he,hc,hdn,by unfold PySem.W.notCls; rw [hd]⟩,⟨oe,kp _ _ he⟩,fun h1 h2 z k=>?_⟩
    obtain ⟨o,z1,z2⟩:=z
    exact ⟨o,k o z1,z2⟩
  have I2:=I1.adopt fe hO
  refine z6A I2 hN hi (.inl hk) (v:=.ref ea) rfl (fun s2 I3=>?_) (.inr hk)
  refine wpAny_mono (hb (.ref ea) pins s2 _ _ _ (I3.suite (.ref ea)) (h ea fe.1)) (fun f s3 q=>?_) fun _ _ z=>z.elim
  have q:=q.unsuite I.ok
  cases f with
  | next=>obtain ⟨σ',H',J,q⟩:=q; exact z6M J hN hi hk fun s4 J4=>⟨_,H',J4,q⟩
  | brk=>obtain ⟨σ',H',J,q⟩:=q; exact z6M J hN hi hk fun s4 J4=>⟨_,H',J4,q⟩
  | cont=>obtain ⟨σ',H',J,q⟩:=q; exact z6M J hN hi hk fun s4 J4=>⟨_,H',J4,q⟩
  | ret u=>obtain ⟨v,σ',H',J,r,q⟩:=q; exact z6M J hN hi hk fun s4 J4=>⟨v,_,H',J4,r,q⟩
end
section
variable {K : PySem.W.Frag} {H0 H : Hp} {B0 : Addr->Prop} {σ : St} {δ : SS} {R : Nat->List Addr}
theorem RS.unset {i : Nat} (h : RS K H0 B0 H σ δ R) : RS K H0 B0 H (σ.set i none) (δ.set i none) R:=by
  have gs : ∀ {j : Nat} {y : SD},(δ.set i none)[j]? = some (some y)->j≠i∧δ[j]? = some (some y):=fun {j y} e=>by
    rcases z2w e with ⟨_,q,_⟩ | q
    · cases q
    · exact q
  have up : ∀ {j : Nat} {w : V},j≠i->σ[j]? = some (some w)->(σ.set i none)[j]? = some (some w):=fun hj e=>by rw [List.getElem?_set_ne (Ne.symm hj)]; exact e
  refine ⟨h.keep,h.inB,by simp [h.len],h.new,h.held,h.disj,fun j d z=>?_,fun j r d z=>?_,fun j d z=>?_⟩
  · obtain ⟨hj,q⟩:=gs z
    obtain ⟨v,e,r⟩:=h.sh j d q
    exact ⟨v,up hj e,r⟩
  · obtain ⟨hj,q⟩:=gs z
    obtain ⟨v,e,r⟩:=h.bo j r d q
    exact ⟨v,up hj e,r⟩
  · obtain ⟨hj,q⟩:=gs z
    obtain ⟨v,e,r⟩:=h.ow j d q
    exact ⟨v,up hj e,r⟩
def unO (i : Nat) : Out->Option Out
  | .nx δ=>some (.nx (δ.set i none))
  | .bk δ=>some (.bk (δ.set i none))
  | .ct δ=>some (.ct (δ.set i none))
  | .rt d=>some (.rt d)
  | .ex _ _=>none
def y6M (i : Nat) (x : Str) (g : SS->Option Out) : SS->Option Out:=fun δ=>(g (δ.set i (some (.sh (.exc x))))).bind (unO i)
theorem PH.imp {X : Cx} {hs : List ExceptHandler} {cls : Value} {t t' : TS} (h : PH X hs cls t) (w : ∀ D σ H,t' D σ H->t D σ H) : PH X hs cls t':=fun pins s σ H D ea T I fe th q=>h pins s σ H D ea T I fe th (w D σ H q)
theorem as_tS {i : Nat} {x : Str} {Ca : Addr} {fr : Bool} {RX : XR} {g : SS->Option Out} (hx : PySem.W.nsIn K mainGlobals x=some (some (.ref Ca))) (hb : z4u K Ca=true) : ∀ D σ H,tS K H0 B0 fr RX (y6M i x g) D σ H->tAs i Ca (tS K H0 B0 fr RX g) D σ H:=by
  rintro D σ H ⟨δ,R,o,rs,q,k⟩ a ha
  unfold y6M at q
  cases e1 : g (δ.set i (some (.sh (.exc x)))) with
  | none=>rw [e1] at q; cases q
  | some o1=>
    rw [e1,Option.bind_some] at q
    have sm : Same H (upd H a (.ext (isX a Ca))):=z0p ha
    have nb : ¬ (B0 a∨∃ r,a∈R r):=fun z=>by
      obtain ⟨o',q'⟩:=rs.inAll a z
      rw [ha] at q'; cases q'
    have rs1:=(rs.mono sm).setSh (i:=i) (d:=.exc x) (v:=.ref a) (by unfold Rep; exact ⟨a,Ca,rfl,nb,z0m,hx,hb⟩)
    refine ⟨_,R,o1,rs1,e1,?_⟩
    have k:=k.back (Stp.same sm)
    cases o1 with
    | nx δ'=>cases q; exact fun σ' H' R' rs' s'=>k _ H' R' rs'.unset s'
    | bk δ'=>cases q; exact fun σ' H' R' rs' s'=>k _ H' R' rs'.unset s'
    | ct δ'=>cases q; exact fun σ' H' R' rs' s'=>k _ H' R' rs'.unset s'
    | rt d=>cases q; exact k
    | ex c δ'=>cases q
end
/-! isinstance(e,C) -/
def z8A (L N : List Str) : D->Option D
  | .exc x=>if N.contains x=true then some (.bl (L.contains x)) else none
  | _=>none
section
variable {X : Cx} {e : Expr} {f : DE} {y : Str} {p p2 pos : Pos} {L N : List Str}
theorem pe_gl {x : Str} {C : Addr} (hg : Gl X x) (hm : X.mg x=some (.ref C)) (hd : (x == ("__debug__" : Str))=false:=by decide) : PE X (.Name x pos) (tC (.ref C)):=fun _ _ _ H _ I h=>z5r I hg hm ⟨.ref C,H,I,rfl,h⟩ hd
theorem y6y {w : V} {c : Value} (hw : RelV w c) (hu : ∀ u,RelV w u->u=c) : CallR X (.builtin "isinstance") (fun xs H Q=>∃ B x v b,xs=[v,w]∧Rep X.K H B (.exc x) v∧(∀ C,PySem.W.nsIn X.K mainGlobals x=some (some (.ref C))->PySem.W.kitOne X.K (.ref C) c=some b)∧Q (.bl b) H):=by
  intro pins s σ H xs us Q I r h
  obtain ⟨B,x,v,b,rfl,rv,hk,q⟩:=h
  obtain ⟨u,w',rfl,r1,r2⟩:=vals2 r
  have e:=hu w' r2
  subst e
  unfold Rep at rv
  obtain ⟨a,C,rfl,_,hq,hn,hx⟩:=rv
  cases r1
  obtain ⟨o,ie⟩:=y7N I hq
  exact PySem.W.kia_one (z9y hx) I.kIn ie (hk C hn) (fun z=>nomatch z) fun tk=>⟨.bl b,H,I.tok tk,rfl,q⟩
theorem rel_ref {C : Addr} : ∀ u,RelV (.ref C) u->u = .ref C:=fun _ r=>r
theorem pd_isX {w : V} {c : Value} (hw : RelV w c) (hu : ∀ u,RelV w u->u=c) (hc : PE X (.Name y p2) (tC w)) (hk : ∀ x,x∈N->∀ C,PySem.W.nsIn X.K mainGlobals x=some (some (.ref C))->PySem.W.kitOne X.K (.ref C) c=some (L.contains x)) (hg : Gl X "isinstance") (hm : X.mg "isinstance" = none) (h : PD X e f)
    (he : starEach [e,.Name y p2] X.env=[(false,eval e X.env),(false,eval (.Name y p2) X.env)]:=by rfl) (he2 : starEach [.Name y p2] X.env=[(false,eval (.Name y p2) X.env)]:=by rfl) : PD X (.Call (.Name "isinstance" p) [e,.Name y p2] [] pos) (d1 (z8A L N) f):=
  (z4S (y6y hw hu) hg hm boot_isinstance (z1o h (z1o hc pa_nil he2) (by rw [he,he2])) (by decide) (by decide) (by rw [he,he2]) (by rw [he2]; rfl)).imp fun σ H Q ⟨B,δ,d,hB,S,q,k⟩=>by
    unfold d1 at q
    cases e1 : f δ with
    | none=>rw [e1] at q; cases q
    | some d'=>
      rw [e1,Option.bind_some] at q
      unfold z8A at q
      split at q
      · rename_i x
        split at q
        · rename_i hn
          cases q
          exact ⟨B,δ,_,hB,S,e1,fun v H1 s1 r1=>⟨B,x,v,_,rfl,r1,hk x (List.contains_iff_mem.mp hn),k _ H1 s1 rfl⟩⟩
        · cases q
      · cases q
theorem z6Z {C : Addr} (hy : Gl X y) (hmy : X.mg y=some (.ref C)) (hk : ∀ x,x∈N->∀ B,PySem.W.nsIn X.K mainGlobals x=some (some (.ref B))->PySem.W.kitOne X.K (.ref B) (.ref C)=some (L.contains x)) (hg : Gl X "isinstance") (hm : X.mg "isinstance" = none) (h : PD X e f)
    (he : starEach [e,.Name y p2] X.env=[(false,eval e X.env),(false,eval (.Name y p2) X.env)]:=by rfl) (he2 : starEach [.Name y p2] X.env=[(false,eval (.Name y p2) X.env)]:=by rfl) (hd : (y == ("__debug__" : Str))=false:=by decide) : PD X (.Call (.Name "isinstance" p) [e,.Name y p2] [] pos) (d1 (z8A L N) f):=
  pd_isX (w:=.ref C) (c:=.ref C) rfl rel_ref (pe_gl hy hmy hd) hk hg hm h he he2
end
theorem y6r {P : Str->Prop} {c : Str} {r : List Str} (h : P c) (hr : ∀ x,x∈r->P x) : ∀ x,x∈c :: r->P x:=fun x hx=>by
  rcases List.mem_cons.mp hx with z | z
  · rw [z]; exact h
  · exact hr x z
theorem k_nil {P : Str->Prop} : ∀ x,x∈([] : List Str)->P x:=fun _ h=>nomatch h
section
variable {X : Cx} {H0 : Hp} {B0 : Addr->Prop} {fr : Bool} {RX : XR} {x n xn : Str} {C Ca : Addr} {np hpos : Pos} {b₀ : Stmt} {suite : List Stmt} {rest : List ExceptHandler} {g : SS->Option Out} {i : Nat}
theorem y8n (hn : PySem.W.nsIn X.K mainGlobals xn=some (some (.ref Ca))) (hxb : z4u X.K Ca=true) (hg : Gl X x) (hm : X.mg x=some (.ref C)) (hx : PySem.W.exmOne X.K (.ref Ca) (.ref C)=some true) (hN : X.N.Nodup) (hi : X.N[i]? = some n) (hk : X.env.scope.names.lookup n=some .local) (hb : ∀ e,PSs (X.suite e) (b₀ :: suite) (tS X.K H0 B0 fr RX g)) (hdb : (x == ("__debug__" : Str))=false:=by decide) :
    PH X (.ExceptHandler (some (.Name x np)) (some n) (b₀ :: suite) hpos :: rest) (.ref Ca) (tS X.K H0 B0 fr RX (y6M i xn g)):=PH.imp (ph_as hg hm hx hN hi hk hb hdb) (as_tS hn hxb)
end
end L2

/-! ### E35: a list of new things; return [x,y] -/
namespace L2
open PySem PySem.Spec PyProof.Rows
def tNs (K : PySem.W.Frag) (f : DS->Option (List D)) : TA:=fun σ H Q=>∃ δ ds,RepS K H noB σ δ∧f δ=some ds∧∀ vs H' A,Same H H'->Trees K H' ds vs A->A.Nodup->(∀ a∈A,H a=none)->Q vs H'
abbrev PAN (X : Cx) (es : List Expr) (fl : List DE) : Prop:=PA X es (tNs X.K (z0j fl))
theorem Trees.len {K : PySem.W.Frag} {H : Hp} : ∀ {ds : List D} {xs : List V} {A : List Addr},Trees K H ds xs A->ds.length=xs.length
  | [],_,_,h=>by unfold Trees at h; rw [h.1]; rfl
  | d :: ds,_,_,h=>by
    unfold Trees at h
    obtain ⟨x,r,C,C',rfl,_,h2,_⟩:=h
    simp [Trees.len h2]
section
variable {X : Cx} {e : Expr} {es : List Expr} {pos : Pos}
theorem y4X : PAN X [] []:=pa_nil.imp fun σ H Q ⟨δ,ds,S,q,k⟩=>by
  cases q
  exact k [] H [] (.refl H) ⟨rfl,rfl⟩ List.nodup_nil (fun a z=>nomatch z)
theorem z4b {f : DE} {fl : List DE} (ha : PN X e f) (hr : PAN X es fl) (hs : starEach (e :: es) X.env=(false,eval e X.env) :: starEach es X.env:=by rfl) : PAN X (e :: es) (f :: fl):=(z1o ha hr hs).imp fun σ H Q ⟨δ,ds,S,q,k⟩=>by
  obtain ⟨x,xs,e1,e2,rfl⟩:=z4x q
  refine ⟨δ,x,S,e1,fun v H1 A s1 t1 nd1 f1=>⟨δ,xs,S.mono s1,e2,fun vs H2 C s2 t2 nd2 f2=>?_⟩⟩
  refine k (v :: vs) H2 (A ++ C) (s1.trans s2) ?_ ?_ fun a ha=>?_
  · unfold Trees
    exact ⟨v,vs,A,C,rfl,t1.mono s2,t2,rfl⟩
  · refine List.nodup_append.mpr ⟨nd1,nd2,fun a ha b hb z=>?_⟩
    subst z
    obtain ⟨o,q',_⟩:=t1.held x a ha
    rw [f2 a hb] at q'; cases q'
  · rcases List.mem_append.mp ha with z | z
    · exact f1 a z
    · exact s1.free (f2 a z)
theorem y4O {fl : List DE} (h : PAN X es fl) (hl : fl.length≤1000:=by decide) : PN X (.List es pos) (mkL (z0j fl)):=(y2S h).imp fun σ H Q ⟨δ,d,S,q,k⟩=>by
  unfold mkL at q
  cases r : z0j fl δ with
  | none=>rw [r] at q; cases q
  | some ds=>
    rw [r] at q
    cases q
    refine ⟨δ,ds,S,r,fun vs H1 A s1 t1 nd fa=>⟨?_,fun p hp=>?_⟩⟩
    · rw [← t1.len,z2l r]
      exact Nat.le_of_lt (z5q hl)
    · have sp:=z0p (o:=.lst vs) hp
      refine k (.ref p) _ (p :: A) (s1.trans sp) ?_ (List.nodup_cons.mpr ⟨fun z=>?_,nd⟩) fun a ha=>?_
      · unfold Tree
        exact ⟨p,vs,A,rfl,z0m,t1.mono sp,rfl⟩
      · obtain ⟨o,q',_⟩:=Trees.held ds t1 p z
        rw [hp] at q'; cases q'
      · rcases List.mem_cons.mp ha with z | z
        · rw [z]; exact s1.free hp
        · exact fa a z
variable {H0 : Hp} {B0 : Addr->Prop} {RX : XR} {a b : Expr} {pos' : Pos}
def z4N (δ : SS) (i : Nat) : Option D:=match δ[i]? with
  | some (some (.ow d))=>some d
  | some (some (.sh d))=>if d.imm=true then some d else none
  | _=>none
def ret2 (i j : Nat) : SS->Option Out:=fun δ=>match z4N δ i,z4N δ j with
  | some d,some e=>some (.rt (.lst [d,e]))
  | _,_=>none
theorem z9K {K : PySem.W.Frag} {H : Hp} {σ : St} {δ : SS} {R : Nat->List Addr} {i : Nat} {d : D} (rs : RS K H0 B0 H σ δ R) (h : z4N δ i=some d) : ∃ v A,σ[i]? = some (some v)∧Tree K H d v A∧A.Nodup∧∀ a∈A,a∈R i:=by
  unfold z4N at h
  split at h
  · rename_i d' e
    cases h
    obtain ⟨v,e1,t,nd⟩:=rs.ow i _ e
    exact ⟨v,R i,e1,t,nd,fun a z=>z⟩
  · rename_i d' e
    split at h
    · rename_i hi
      cases h
      obtain ⟨v,e1,r⟩:=rs.sh i _ e
      exact ⟨v,[],e1,r.immTree _ hi,List.nodup_nil,(fun a z=>nomatch z)⟩
    · cases h
  · cases h
theorem s_ret2 {i j : Nat} (hij : i≠j) (ha : PE X a (z9Y i)) (hb : PE X b (z9Y j)) (hs : starEach [a,b] X.env=(false,eval a X.env) :: starEach [b] X.env:=by rfl) (hs2 : starEach [b] X.env=(false,eval b X.env) :: starEach [] X.env:=by rfl) :
    PS X (.Return (some (.List [a,b] pos')) pos) (tS X.K H0 B0 true RX (ret2 i j)):=PS.imp (z7K (y2S (z1o ha (z1o hb pa_nil hs2) hs))) fun D σ H ⟨δ,R,o,rs,q,k⟩=>by
  unfold ret2 at q
  split at q
  · rename_i d e h1 h2
    cases q
    obtain ⟨v,A,e1,t1,n1,m1⟩:=z9K rs h1
    obtain ⟨w,C,e2,t2,n2,m2⟩:=z9K rs h2
    refine ⟨v,e1,w,e2,by show 2≤sizeLine; rw [sizeLine_eq]; omega,fun p hp=>?_⟩
    have sp:=z0p (o:=.lst [v,w]) hp
    have hold : ∀ x,x∈A ++ C->H x≠none:=fun x hx z=>by
      rcases List.mem_append.mp hx with y | y
      · obtain ⟨o,q,_⟩:=t1.held _ x y
        rw [z] at q; cases q
      · obtain ⟨o,q,_⟩:=t2.held _ x y
        rw [z] at q; cases q
    refine k (.ref p) _ ⟨rs.keep.trans sp,fun _=>⟨p :: (A ++ C),?_,List.nodup_cons.mpr ⟨fun z=>hold p z hp,List.nodup_append.mpr ⟨n1,n2,fun x hx y hy z=>?_⟩⟩,fun x hx=>?_⟩,fun z=>by cases z⟩ fun x z=>sp.free z
    · unfold Tree
      refine ⟨p,[v,w],A ++ C,rfl,z0m,?_,rfl⟩
      unfold Trees
      refine ⟨v,[w],A,C,rfl,t1.mono sp,?_,rfl⟩
      unfold Trees
      exact ⟨w,[],C,[],rfl,t2.mono sp,⟨rfl,rfl⟩,by simp⟩
    · subst z
      exact hij (rs.disj i j x (m1 x hx) (m2 x hy))
    · rcases List.mem_cons.mp hx with z | z
      · rw [z]; exact rs.keep.free hp
      · rcases List.mem_append.mp z with z | z
        · exact rs.new i x (m1 x z)
        · exact rs.new j x (m2 x z)
  · cases q
end
end L2

/-! ### E36: f(new thing,..),where f takes its first argument over -/
namespace L2
open PySem PySem.Spec PyProof.Rows
def y8k (F : List D->Option D) (f0 : DE) (fl : List DE) : DE:=fun δ=>(f0 δ).bind fun d0=>(z0j fl δ).bind fun args=>if z1l args=true then F (d0 :: args) else none
section
variable {X : Cx} {k : Nat} {x : Str} {p pos : Pos} {e : Expr} {es : List Expr}
end
end L2

/-! ### E37: a list times an int; f(..)[i],where f may raise -/
namespace L2
open PySem PySem.Spec PyProof.Rows
def repLs : D->D->Option (List D)
  | .lst ds,.int k=>if (0≤k∧k≤1000000)∧ds.length * k.toNat≤sizeLine then some (List.replicate k.toNat ds).flatten else none
  | _,_=>none
def dRep (f g : DE) : DS->Option (List D):=fun δ=>(f δ).bind fun x=>(g δ).bind fun y=>repLs x y
theorem Reps.rep {K : PySem.W.Frag} {H : Hp} {B : Addr->Prop} {ds : List D} {xs : List V} (h : Reps K H B ds xs) : ∀ n : Nat,Reps K H B (List.replicate n ds).flatten (List.replicate n xs).flatten
  | 0=>(show Reps K H B [] [] by unfold Reps; rfl)
  | n + 1=>by
    rw [List.replicate_succ,List.replicate_succ,List.flatten_cons,List.flatten_cons]
    exact h.append (Reps.rep h n)
def dIxX (F : DS->Option XO) (g : DE) : DS->Option XO:=fun δ=>match F δ with
  | some (.val d)=>(g δ).bind fun y=>(ixD d y).bind fun z=>if z.imm=true then some (.val z) else none
  | some (.exc c)=>some (.exc c)
  | none=>none
section
variable {X : Cx} {a b : Expr} {pos : Pos} {f g : DE} {RX : XR}
end
end L2

/-! ### E38: sorted of a dict -/
namespace PySem
open Sem (wp)
section
variable {K : Type} [DecidableEq K] {prog : Program} {w : World} {knd : KeyKind prog w K} {A : Around} {E : Value->Shared->Prop} {s : Shared}
end
end PySem

/-! ### E39: sorted of a dict,by trees -/
namespace L2
open PySem PySem.Spec PyProof.Rows
section
variable {prog : Program} {w : World} {A : Around} {E : Value->Shared->Prop} {s : Shared}
end
section
variable {X : Cx}
variable {e : Expr} {f : DE} {p pos : Pos}
end
end L2

/-! ### E40: {k: v} of ints; range(a,b,-1); f(..)[i] of new lists -/
namespace L2
open PySem PySem.Spec PyProof.Rows
def mkD1 : D->D->Option D
  | .int a,.int b=>some (.dct [.inl a] [.int b])
  | _,_=>none
def dDisp1 (fk fv : DE) : DE:=d2 mkD1 fk fv
section
variable {X : Cx} {ke ve : Expr} {pos : Pos} {f g : DE}
end
section
variable {X : Cx} {tg : Expr}
def rngN : Option D->Option D->Option D->Option (List D)
  | some (.int i),some (.int j),some (.int c)=>if c = -1∧-(2 ^ 61)≤i∧i < 2 ^ 61∧-(2 ^ 61)≤j∧j < 2 ^ 61 then some (rngC i (-1) (i - j).toNat) else none
  | _,_,_=>none
def dRngN (f g h : DE) : DS->Option (List D):=fun δ=>rngN (f δ) (g δ) (h δ)
end
theorem Trees.at {K : PySem.W.Frag} {H : Hp} : ∀ {ds : List D} {xs : List V} {A : List Addr} {k : Nat} {d : D},Trees K H ds xs A->A.Nodup->ds[k]? = some d->∃ v C,xs[k]? = some v∧Tree K H d v C∧C.Nodup∧∀ a∈C,a∈A
  | [],_,_,_,_,_,_,e=>by cases e
  | d :: ds,xs,A,k,d',h,nd,e=>by
    unfold Trees at h
    obtain ⟨x,r,C,C',rfl,h1,h2,rfl⟩:=h
    have n2:=List.nodup_append.mp nd
    cases k with
    | zero=>cases e; exact ⟨x,C,rfl,h1,n2.1,fun a ha=>List.mem_append.mpr (.inl ha)⟩
    | succ k=>
      obtain ⟨v,D',e1,t1,nd1,sb⟩:=Trees.at (k:=k) h2 n2.2.1 (by simpa using e)
      exact ⟨v,D',by simpa using e1,t1,nd1,fun a ha=>List.mem_append.mpr (.inr (sb a ha))⟩
def ixL : D->D->Option D
  | .lst ds,.int i=>atI ds i
  | _,_=>none
section
variable {X : Cx} {a b : Expr} {pos : Pos} {f g : DE}
theorem pn_ixN (ha : PN X a f) (hb : PD X b g) (hs : z6x b:=by intro _ _; rfl) : PN X (.Subscript a b pos) (d2 ixL f g):=(pe_ix y7w ha hb hs).imp fun σ H Q ⟨δ,d,S,q,k⟩=>by
  obtain ⟨dx,dy,e1,e2,e3⟩:=z4Z q
  unfold ixL at e3
  split at e3
  · rename_i ds i
    refine ⟨δ,_,S,e1,fun v H1 A s1 t1 nd1 f1=>⟨noB,δ,_,.no,S.mono s1,e2,fun u H2 s2 r2=>?_⟩⟩
    unfold Rep at r2
    subst r2
    have t2:=t1.mono s2
    unfold Tree at t2
    obtain ⟨p,xs,C,rfl,hp,ts,rfl⟩:=t2
    have hl:=ts.len
    unfold atI at e3
    cases e4 : ixN ds.length i with
    | none=>rw [e4] at e3; cases e3
    | some j=>
      rw [e4] at e3
      obtain ⟨v',C',e5,t5,nd5,sb⟩:=ts.at (List.nodup_cons.mp nd1).2 (show ds[j]? = some d from e3)
      have e6 : atI xs i=some v':=by
        unfold atI
        rw [← hl,e4]
        exact e5
      exact .inl ⟨p,xs,i,v',rfl,rfl,SqL.of hp,e6,k v' H2 C' (s1.trans s2) t5 nd5 fun a ha=>f1 a (List.mem_cons_of_mem _ (sb a ha))⟩
  · cases e3
end
end L2

/-! ### E41: for x,y in enumerate(xs) -/
namespace L2
open PySem PySem.Spec PyProof.Rows
def twoD : D->Option (D × D)
  | .tup [a,b]=>some (a,b)
  | _=>none
def y2c (i j : Nat) (b : SS->Option Out) : List D->SS->Option Out
  | [],δ=>some (.nx δ)
  | d :: r,δ=>(twoD d).bind fun z=>(b ((δ.set i (some (.sh z.1))).set j (some (.sh z.2)))).bind fun o=>match o with
    | .nx δ'=>y2c i j b r δ'
    | .ct δ'=>y2c i j b r δ'
    | .bk δ'=>some (.nx δ')
    | .rt d=>some (.rt d)
    | .ex c δ'=>some (.ex c δ')
def forO2 (i j : Nat) (f : DS->Option (List D)) (g : SS->Option Out) : SS->Option Out:=fun δ=>(f (shV δ)).bind fun ds=>y2c i j g ds δ
section
variable {X : Cx} {H0 : Hp} {B0 : Addr->Prop} {fr : Bool} {RX : XR} {pos : Pos}
end
end L2

/-! ### E42: min of a list of ints -/
namespace L2
open PySem PySem.Spec PyProof.Rows
def bst (ns : List Int) : Nat->Nat
  | 0=>0
  | k + 1=>if decide (ns.getD (k + 1) 0 < ns.getD (bst ns k) 0)=true then k + 1 else bst ns k
def mnI (ns : List Int) : Int:=ns.getD (bst ns (ns.length - 1)) 0
theorem z9o {bt : Nat->Nat->Bool} {ns : List Int} (h : ∀ i j,bt i j=decide (ns.getD i 0 < ns.getD j 0)) : ∀ k,argBest bt k=bst ns k
  | 0=>rfl
  | k + 1=>by
    unfold argBest bst
    rw [z9o h k,h]
section
variable {X : Cx}
theorem y3S (hc : X.calm=true) : CallR X (.builtin "min") (fun xs H Q=>∃ (p : Addr) (ns : List Int),xs=[.ref p]∧SqL X.K H p (ns.map V.int)∧ns≠[]∧Q (.int (mnI ns)) H):=by
  intro pins s σ H xs us Q I r h
  obtain ⟨p,ns,rfl,hq,hne,q⟩:=h
  obtain ⟨u,rfl,ru⟩:=z5o r
  cases ru
  obtain ⟨its,rv,pl,hz⟩:=I.list hq
  have hi:=z4z rv
  obtain ⟨xs,hx⟩:=hi.allInts.items
  have hl' : s.heap.IsList p (intItems xs):=hx ▸ pl.isList
  have e1 : ns=xs.toList.map (·.1):=by
    rw [← nums_intItems,← hx]
    exact (show numsOf its.toArray.toList=ns from hi.numsOf).symm
  have hsz : xs.size=ns.length:=by rw [e1]; simp
  have hp : 0 < ns.length:=List.length_pos_iff.mpr hne
  refine min_intList (I.ok.hd hc) hl' (by omega) fun v h' tk hv hk=>?_
  have eb : argBest (fun i j=>decide (numAt xs i < numAt xs j)) (xs.size - 1)=bst ns (ns.length - 1):=by
    rw [hsz]
    refine z9o (fun i j=>?_) _
    have en : ∀ k,numAt xs k=ns.getD k 0:=fun k=>by
      rw [e1]
      unfold numAt
      simp [List.getD]
    rw [en,en]
  rw [eb] at hv
  obtain ⟨t,rfl⟩:=intItems_at hv
  have en : numAt xs (bst ns (ns.length - 1))=mnI ns:=by
    unfold mnI
    rw [e1]
    unfold numAt
    simp [List.getD]
  exact ⟨.int _,H,I.kept hk,⟨t,by rw [en]⟩,q⟩
def y2f : List D->Option D
  | [.lst ds]=>(z1n ds).bind fun ns=>if ns.isEmpty=true then none else some (.int (mnI ns))
  | _=>none
theorem oa_minL {K : PySem.W.Frag} : OpA K (fun xs H Q=>∃ (p : Addr) (ns : List Int),xs=[.ref p]∧SqL K H p (ns.map V.int)∧ns≠[]∧Q (.int (mnI ns)) H) y2f:=by
  intro H B ds d vs Q hB hr q k
  unfold y2f at q
  split at q
  · rename_i es
    cases e : z1n es with
    | none=>rw [e] at q; cases q
    | some bs=>
      rw [e,Option.bind_some] at q
      split at q
      · cases q
      · rename_i hn
        cases q
        obtain ⟨v,rfl,r⟩:=z2Q hr
        unfold Rep at r
        obtain ⟨a,xs,rfl,_,h,rs⟩:=r
        rw [z3N e rs] at h
        exact ⟨a,bs,rfl,SqL.of h,fun z=>hn (by rw [z]; rfl),k _ H (.refl H) rfl⟩
  · cases q
variable {e : Expr} {f : DE} {p pos : Pos}
theorem pd_minL (hc : X.calm=true) (hg : Gl X "min") (hm : X.mg "min" = none) (h : PD X e f) (he : starEach [e] X.env=[(false,eval e X.env)]:=by rfl) : PD X (.Call (.Name "min" p) [e] [] pos) (z0k y2f [f]):=
  z4e (y3S hc) oa_minL hg hm boot_min (z0a h z0c he) (by decide) (by decide) he rfl
end
end L2

/-! ### E43: xs[a::k] -/
namespace L2
open PySem PySem.Spec PyProof.Rows
def y7Q (n : Nat) (lo st : Int) : List Nat:=sliceRange (min lo n) n st
def y7W : D->D->D->Option (List D)
  | .lst ds,.int lo,.int st=>if 0≤lo∧0 < st then some ((y7Q ds.length lo st).filterMap (ds[·]?)) else none
  | .scr ns,.int lo,.int st=>if 0≤lo∧0 < st then some ((y7Q ns.length lo st).filterMap ((ns.map D.int)[·]?)) else none
  | _,_,_=>none
def dStep (f g h : DE) : DS->Option (List D):=fun δ=>(f δ).bind fun x=>(g δ).bind fun y=>(h δ).bind fun z=>y7W x y z
theorem Reps.pick {K : PySem.W.Frag} {H : Hp} {B : Addr->Prop} {ds : List D} {xs : List V} (h : Reps K H B ds xs) : ∀ l : List Nat,Reps K H B (l.filterMap (ds[·]?)) (l.filterMap (xs[·]?))
  | []=>.nil
  | j :: l=>by
    rw [List.filterMap_cons,List.filterMap_cons]
    cases e : ds[j]? with
    | none=>
      have hn : xs[j]? = none:=by
        rw [List.getElem?_eq_none_iff] at e ⊢
        rw [← h.length]
        exact e
      rw [hn]
      exact h.pick l
    | some d=>
      obtain ⟨x,e2,r⟩:=h.get e
      rw [e2]
      exact .cons r (h.pick l)
theorem Vals.pick {xs : List V} {us : List Value} (h : Vals xs us) : ∀ l : List Nat,Vals (l.filterMap (xs[·]?)) (l.filterMap (us[·]?))
  | []=>.nil
  | j :: l=>by
    rw [List.filterMap_cons,List.filterMap_cons]
    cases e : xs[j]? with
    | none=>
      rw [h.none_of e]
      exact h.pick l
    | some d=>
      obtain ⟨x,e2,r⟩:=h.get e
      rw [e2]
      exact .cons r (h.pick l)
section
variable {X : Cx} {e lo st : Expr} {te : TE} {tl tk : TO} {pos p2 : Pos}
variable {f g h : DE}
end
end L2

/-! ### E44: products of greater numbers -/
namespace L2
open PySem PySem.Spec PyProof.Rows
def bigL : Nat:=2 ^ 250
def CMulB (i j : Int) : Prop:=i.natAbs < bigL∧j.natAbs < bigL
instance {i j : Int} : Decidable (CMulB i j):=by unfold CMulB; infer_instance
theorem CMulB.ok {i j : Int} (h : CMulB i j) : IntMulOk i j:=by
  have h1 : Builtin.Int.intBits i≤250:=intBits_le h.1
  have h2 : Builtin.Int.intBits j≤250:=intBits_le h.2
  have h3 : Builtin.Int.intTooBig ((Builtin.Int.intBits i : Int) + (Builtin.Int.intBits j : Int))=false:=by
    unfold Builtin.Int.intTooBig
    apply decide_eq_false
    have hb : (2000 : Int)≤bitsLine:=by decide
    omega
  unfold IntMulOk
  rw [h3]
  simp
section
variable {X : Cx} {a b : Expr} {pos : Pos} {f g : DE}
end
end L2

/-! ### E45: for x in range(..),the bounds read from anything; return [x,y,z] -/
namespace L2
open PySem PySem.Spec PyProof.Rows
section
variable {X : Cx} {tg iter a b : Expr} {p pos pos' : Pos}
structure ItF (J : It) (lo : Int) (n : Nat) : Prop where
  go : ∀ i H',i < n->J.go i H'
  stop : ∀ i H',n≤i->J.stop i H'
  yld : ∀ i H' x H2,J.yld i H' x H2->Same H' H2∧x = .int (lo + (i : Int))
def dIv1 (f : DE) : DS->Option (Int × Nat):=fun δ=>match f δ with
  | some (.int j)=>if -(2 ^ 62)≤j∧j < 2 ^ 62 then some (0,j.toNat) else none
  | _=>none
def dIv2 (f g : DE) : DS->Option (Int × Nat):=fun δ=>match f δ,g δ with
  | some (.int i),some (.int j)=>if -(2 ^ 62)≤i∧i < 2 ^ 62∧-(2 ^ 62)≤j∧j < 2 ^ 62 then some (i,(j - i).toNat) else none
  | _,_=>none
def forI (i : Nat) (f : DS->Option (Int × Nat)) (b : SS->Option Out) : SS->Option Out:=fun δ=>(f (z0o δ)).bind fun z=>z3R i b (z3L z.1 z.2) δ
variable {H0 : Hp} {B0 : Addr->Prop} {fr : Bool} {RX : XR}
/-! return [x,y,z] -/
def ret3 (i j l : Nat) : SS->Option Out:=fun δ=>match z4N δ i,z4N δ j,z4N δ l with
  | some d,some e,some f=>some (.rt (.lst [d,e,f]))
  | _,_,_=>none
variable {c : Expr}
end
end L2

/-! ### E46: new lists of new things put together -/
namespace L2
open PySem PySem.Spec PyProof.Rows
section
variable {X : Cx} {a b : Expr} {pos : Pos} {f g : DE}
end
end L2

/-! ### E47: t[lo:hi] of a tuple,also the whole of it; max of a list of ints -/
namespace HT
open PySem PySem.Spec PyProof.Rows
section
variable {prog : Program} {w : World} {A : Around} {E : Value->Shared->Prop} {s : Shared}
theorem getItem_tuple_whole {t sl : Addr} {items : Array Value} {vl vu : Value} {lo hi : Option Int} {Q : Value->Shared->Prop} (ht : IsTup s.heap t items) (hs : s.heap.IsSliceOf sl vl vu .none) (pl : IsPart vl lo) (pu : IsPart vu hi)
    (hw : sIx items.size 0 lo=0∧sIx items.size items.size hi=items.size)
    (h : Q (.ref t) s) : wpAny (model prog w) A (getItem (.ref t) (.ref sl)) Q E s:=by
  obtain ⟨os,hos,hcs,hds⟩:=id hs
  have hTs : s.TypeIs (.ref sl) "slice" := ⟨os,hos,hcs⟩
  unfold getItem
  try with_reducible refine wpAny_holding ?_
  first | refine wpAny_bind (wpAny_pure ?_) | skip
  refine wpAny_bind (wpAny_sequenceKey ht.typeIs (by decide) ?_)
  refine wpAny_bind (wpAny_callSpecial?_slot (name:=Str.ofString "__getitem__") ht.typeIs PyProof.Rows.slot_tuple_getitem
    (wpAny_call_entry PyProof.Rows.slot_tuple_getitem ht.typeIs entry_tuple_getitem ?_ (args_tuple_getitem _ _)))
  show wpAny _ _ (Builtin.Tuple.tupleItemsOf (.ref t) >>= _) _ _ s
  refine wpAny_bind (tupleItemsOf_ ht ?_)
  refine wpAny_bind (wpAny_typeOf hTs ?_)
  rw [if_pos (by decide)]
  refine wpAny_bind (z2O hs pl pu ?_)
  have hyes : (((sIx items.size 0 lo : Nat) : Int) == 0 && (1 : Int) == 1 && (sIx items.size items.size hi - sIx items.size 0 lo) == items.size)=true:=by
    rw [hw.1,hw.2]
    simp
  show wpAny _ _ (if (((sIx items.size 0 lo : Nat) : Int) == 0 && (1 : Int) == 1 && (sIx items.size items.size hi - sIx items.size 0 lo) == items.size)=true then _ else _) _ _ s
  rw [if_pos hyes]
  refine wpAny_bind (m:=Builtin.Tuple.tupleIsExact _) ?_
  unfold Builtin.Tuple.tupleIsExact
  refine wpAny_bind (wpAny_typeOf ht.typeIs ?_)
  refine wpAny_pure ?_
  rw [if_pos (by decide)]
  refine wpAny_bind (wpAny_rule ?_)
  exact wpAny_pure ⟨_,rfl,wpAny_pure h⟩
end
end HT
namespace L2
open PySem PySem.Spec PyProof.Rows
section
variable {X : Cx} {e a b : Expr} {lo hi : Option Expr} {p p2 pos : Pos}
def rSlW (K : PySem.W.Frag) : V->Option Int->Option Int->Hp->VK->Prop:=fun x lo hi H Q=>∃ a xs,x = .ref a∧SqT K H a xs ∧
  ((HT.sIx xs.length 0 lo=0∧HT.sIx xs.length xs.length hi=xs.length)->Q (.ref a) H)∧(¬ (HT.sIx xs.length 0 lo=0∧HT.sIx xs.length xs.length hi=xs.length)->∀ p,H p=none->Q (.ref p) (upd H p (.tup (y1n xs lo hi))))
theorem sl_tupW : SlR X (rSlW X.K):=by
  intro pins s σ H x v vl vu lo hi sl Q I rx hs pl pu h
  obtain ⟨a,xs,rfl,hx,q1,q2⟩:=h
  cases rx
  obtain ⟨its,r,ht,hz⟩:=I.tuple hx
  have hlen : its.toArray.size=xs.length:=by rw [List.size_toArray]; exact r.length.symm
  by_cases hw : HT.sIx xs.length 0 lo=0∧HT.sIx xs.length xs.length hi=xs.length
  · refine ⟨"tuple",_,PyProof.Rows.slot_tuple_getitem.lookup,ht.typeIs,?_⟩
    exact HT.getItem_tuple_whole ht hs pl pu (by rw [hlen]; exact hw) ⟨.ref a,H,I,rfl,q1 hw⟩
  · refine ⟨"tuple",_,PyProof.Rows.slot_tuple_getitem.lookup,ht.typeIs,?_⟩
    refine HT.getItem_tuple_cut ht hs pl pu (by rw [hlen]; exact hw) ?_ (by rw [hlen]; exact hz)
    rw [hlen]
    refine ⟨.ref s.heap.objs.size,_,I.laid (t':=s.toks) (o:=.tup (y1n xs lo hi)) (fun b ob q=>Heap.get?_push_of_some _ q) (Nat.le_refl _) ?_,rfl,q2 hw _ (I.hok.fresh (Nat.le_refl _))⟩
    exact ⟨Nat.le_trans (z5a xs lo hi) hz,_,(r.drop (HT.sIx xs.length 0 lo)).take (HT.sIx xs.length xs.length hi - HT.sIx xs.length 0 lo),TupN.new _ _⟩
def z9c (f : DE) (fl fh : DS->Option (Option Int)) : DE:=fun δ=>match f δ with
  | some (.tup ds)=>(fl δ).bind fun lo=>(fh δ).map fun hi=>.tup (z3s ds lo hi)
  | _=>none
theorem z4V {f : DE} {fl fh : DS->Option (Option Int)} (he : PD X e f) (hl : POD X lo fl) (hh : POD X hi fh) : PD X (.Subscript e (.Slice lo hi none p2) pos) (z9c f fl fh):=(z9n sl_tupW he hl hh).imp fun σ H Q ⟨B,δ,d',hB,S,q,k⟩=>by
  unfold z9c at q
  split at q
  · rename_i ds e1
    cases e2 : fl δ with
    | none=>rw [e2] at q; cases q
    | some l=>
    cases e3 : fh δ with
    | none=>rw [e2,e3] at q; cases q
    | some u=>
    rw [e2,e3] at q
    cases q
    refine ⟨B,δ,_,hB,S,e1,fun v H1 s1 r1=>⟨B,δ,l,hB.mono s1,S.mono s1,e2,fun H2 s2=>⟨B,δ,u,(hB.mono s1).mono s2,(S.mono s1).mono s2,e3,fun H3 s3=>?_⟩⟩⟩
    unfold Rep at r1
    obtain ⟨a,xs,rfl,hq,rs⟩:=r1
    have hlen:=rs.length
    refine ⟨a,xs,rfl,(s2.trans s3).tup hq,fun hw=>?_,fun hw p hp=>?_⟩
    · refine k _ _ ((s1.trans s2).trans s3) ?_
      have ec : z3s ds l u=ds:=by
        unfold z3s
        rw [← hlen] at hw
        rw [hw.1,hw.2,List.drop_zero,Nat.sub_zero,List.take_length]
      show Rep X.K H3 B (.tup (z3s ds l u)) _
      rw [ec]
      unfold Rep
      exact ⟨a,xs,rfl,(s2.trans s3).tup hq,rs.mono (s2.trans s3)⟩
    · have sa:=z0p (o:=.tup (y1n xs l u)) hp
      refine k _ _ (((s1.trans s2).trans s3).trans sa) ?_
      show Rep X.K _ B (.tup (z3s ds l u)) _
      unfold Rep
      have rc : Reps X.K H1 B (z3s ds l u) (y1n xs l u):=by
        unfold y1n z3s
        rw [← hlen]
        exact (rs.drop _).take _
      exact ⟨p,y1n xs l u,rfl,SqT.of z0m,(rc.mono (s2.trans s3)).mono sa⟩
  · cases q
/-! max of a list -/
def y0Z (ns : List Int) : Nat->Nat
  | 0=>0
  | k + 1=>if decide (ns.getD (k + 1) 0 > ns.getD (y0Z ns k) 0)=true then k + 1 else y0Z ns k
def mxI (ns : List Int) : Int:=ns.getD (y0Z ns (ns.length - 1)) 0
theorem z7q {bt : Nat->Nat->Bool} {ns : List Int} (h : ∀ i j,bt i j=decide (ns.getD i 0 > ns.getD j 0)) : ∀ k,argBest bt k=y0Z ns k
  | 0=>rfl
  | k + 1=>by
    unfold argBest y0Z
    rw [z7q h k,h]
theorem y1U (hc : X.calm=true) : CallR X (.builtin "max") (fun xs H Q=>∃ (p : Addr) (ns : List Int),xs=[.ref p]∧SqL X.K H p (ns.map V.int)∧ns≠[]∧Q (.int (mxI ns)) H):=by
  intro pins s σ H xs us Q I r h
  obtain ⟨p,ns,rfl,hq,hne,q⟩:=h
  obtain ⟨u,rfl,ru⟩:=z5o r
  cases ru
  obtain ⟨its,rv,pl,hz⟩:=I.list hq
  have hi:=z4z rv
  obtain ⟨xs,hx⟩:=hi.allInts.items
  have hl' : s.heap.IsList p (intItems xs):=hx ▸ pl.isList
  have e1 : ns=xs.toList.map (·.1):=by
    rw [← nums_intItems,← hx]
    exact (show numsOf its.toArray.toList=ns from hi.numsOf).symm
  have hsz : xs.size=ns.length:=by rw [e1]; simp
  have hp : 0 < ns.length:=List.length_pos_iff.mpr hne
  refine max_intList (I.ok.hd hc) hl' (by omega) fun v h' tk hv hk=>?_
  have eb : argBest (fun i j=>decide (numAt xs i > numAt xs j)) (xs.size - 1)=y0Z ns (ns.length - 1):=by
    rw [hsz]
    refine z7q (fun i j=>?_) _
    have en : ∀ k,numAt xs k=ns.getD k 0:=fun k=>by
      rw [e1]
      unfold numAt
      simp [List.getD]
    rw [en,en]
  rw [eb] at hv
  obtain ⟨t,rfl⟩:=intItems_at hv
  have en : numAt xs (y0Z ns (ns.length - 1))=mxI ns:=by
    unfold mxI
    rw [e1]
    unfold numAt
    simp [List.getD]
  exact ⟨.int _,H,I.kept hk,⟨t,by rw [en]⟩,q⟩
def y3o : List D->Option D
  | [.lst ds]=>(z1n ds).bind fun ns=>if ns.isEmpty=true then none else some (.int (mxI ns))
  | _=>none
theorem oa_maxL {K : PySem.W.Frag} : OpA K (fun xs H Q=>∃ (p : Addr) (ns : List Int),xs=[.ref p]∧SqL K H p (ns.map V.int)∧ns≠[]∧Q (.int (mxI ns)) H) y3o:=by
  intro H B ds d vs Q hB hr q k
  unfold y3o at q
  split at q
  · rename_i es
    cases e : z1n es with
    | none=>rw [e] at q; cases q
    | some bs=>
      rw [e,Option.bind_some] at q
      split at q
      · cases q
      · rename_i hn
        cases q
        obtain ⟨v,rfl,r⟩:=z2Q hr
        unfold Rep at r
        obtain ⟨a,xs,rfl,_,h,rs⟩:=r
        rw [z3N e rs] at h
        exact ⟨a,bs,rfl,SqL.of h,fun z=>hn (by rw [z]; rfl),k _ H (.refl H) rfl⟩
  · cases q
variable {f : DE}
theorem pd_maxL (hc : X.calm=true) (hg : Gl X "max") (hm : X.mg "max" = none) (h : PD X e f) (he : starEach [e] X.env=[(false,eval e X.env)]:=by rfl) : PD X (.Call (.Name "max" p) [e] [] pos) (z0k y3o [f]):=
  z4e (y1U hc) oa_maxL hg hm boot_max (z0a h z0c he) (by decide) (by decide) he rfl
end
end L2

/-! ### E48: the tables of sets: their places rise as long as they are plain -/
namespace PySem
namespace SetTable
def Up (xs : Array Nat) : Prop:=xs.toList.Pairwise (· < ·)
end SetTable
/-- what is known of a set's table -/
def TI (t : SetTable) : Prop:=t.led=true∧(t.plain=true->SetTable.Up t.place)
end PySem

/-! ### E49: set(xs) of ints,with what is known of its table -/
namespace PySem
section
variable {prog : Program} {w : World} {K : Type} [DecidableEq K] (knd : KeyKind prog w K)
variable {knd} {A : Around} {E : Value->Shared->Prop} {s : Shared}
end
section
variable {prog : Program} {w : World} {A : Around} {R : Result->Shared->Prop} {I : Addr} {fp wr : List Addr} {G : Array GenState->Array GenState->Prop} {n : Nat} {P : Nat->Value->Prop} {St : Nat->Shared->Prop}
open PyProof.Rows in
end
end PySem

/-! ### E50: set(xs),the call -/
namespace PySem
section
variable {prog : Program} {w : World} {A : Around} {E : Value->Shared->Prop} {s : Shared}
open PyProof.Rows in
set_option maxHeartbeats 3200000 in
open PyProof.Rows in
end
end PySem

/-! ### E51: going through a set -/
namespace PySem
section
variable {M : Model} {A : Around} {E : Value->Shared->Prop} {s : Shared}
end
section
variable {prog : Program} {w : World} {A : Around} {E : Value->Shared->Prop} {s : Shared}
end
end PySem

/-! ### E52: a set's iterator -/
namespace PySem
def Heap.SIt (g : Heap) (I a : Addr) (first : Value) (i n ep : Nat) : Prop:=∃ ob,g.get? I=some ob∧ob.cls = .type "set_iterator" ∧ ob.data = .fields #[first,.int i 0,.ref a,.int n 0,.int ep 0]
section
variable {prog : Program} {w : World} {A : Around} {E : Value->Shared->Prop} {s : Shared}
end
end PySem

/-! ### E53: collect of a set of ints -/
namespace PySem
section
variable {prog : Program} {w : World} {A : Around} {E : Value->Shared->Prop} {s : Shared}
end
end PySem

/-! ### E54: collect of a set -/
namespace PySem
open Sem (wp)
section
variable {K : Type} [DecidableEq K] {prog : Program} {w : World} {knd : KeyKind prog w K} {A : Around} {E : Value->Shared->Prop} {s : Shared}
end
end PySem

/-! ### E55: sorted(set(xs)),xs a list of ints -/
namespace L2
open PySem PySem.Spec PyProof.Rows
def ddI (ns : List Int) : List Int:=ns.foldl (fun acc n=>if acc.any (· == n) then acc else acc ++ [n]) []
section
variable {prog : Program} {w : World} {A : Around} {E : Value->Shared->Prop} {s : Shared}
end
section
variable {X : Cx} {e : Expr} {te : TE} {p p' pos pos' : Pos}
def y7y : D->Option (List D)
  | .lst ds=>(z1n ds).bind fun ns=>if ns.length≤1000∧(ddI ns).length < 64 then some ((z8U (ddI ns)).map .int) else none
  | _=>none
def dSortS (f : DE) : DS->Option (List D):=fun δ=>(f δ).bind y7y
variable {f : DE}
end
end L2

/-! ### E56: lists put together,the script among them -/
namespace L2
open PySem PySem.Spec PyProof.Rows
section
variable {X : Cx} {a b : Expr} {pos : Pos} {f g : DE}
def seqL : D->Option (List D)
  | .lst ds=>some ds
  | .scr ns=>some (ns.map .int)
  | _=>none
def catSs : D->D->Option (List D):=fun x y=>(seqL x).bind fun ds=>(seqL y).bind fun es=>if ds.length + es.length≤sizeLine then some (ds ++ es) else none
def dCatS (f g : DE) : DS->Option (List D):=fun δ=>(f δ).bind fun x=>(g δ).bind fun y=>catSs x y
end
end L2

/-! ### E57: isinstance(x,str) -/
namespace L2
open PySem PySem.Spec PyProof.Rows
section
variable {X : Cx} {e : Expr} {p p2 pos : Pos}
end
end L2

/-! ### E58: len(set(xs)),xs a list of ints -/
namespace L2
open PySem PySem.Spec PyProof.Rows
section
variable {X : Cx} {e : Expr} {te : TE} {p p' pos pos' : Pos}
variable {f : DE}
end
end L2

/-! ### E59: tuples put together -/
namespace L2
open PySem PySem.Spec PyProof.Rows
section
variable {X : Cx} {a b : Expr} {pos : Pos} {f g : DE}
def rCatU (K : PySem.W.Frag) : R2:=fun x y H Q=>∃ l b xs zs,x = .ref l∧y = .ref b∧SqT K H l xs∧SqT K H b zs∧xs.length + zs.length≤sizeLine∧(xs=[]->Q (.ref b) H)∧(xs≠[]->zs=[]->Q (.ref l) H)∧(xs≠[]->zs≠[]->∀ p,H p=none->Q (.ref p) (upd H p (.tup (xs ++ zs))))
theorem op_catU : OpR X (binaryOp .Add) (rCatU X.K):=by
  intro pins s σ H x y v u Q I rx ry h
  obtain ⟨l,b,xs,zs,rfl,rfl,hH,hB,hz,q0,q1,q2⟩:=h
  cases rx
  cases ry
  obtain ⟨its,o1,n1,r,e1,c1,d1,g1,z1⟩:=I.tupleO hH
  obtain ⟨its2,o2,n2,r2,e2,c2,d2,g2,z2⟩:=I.tupleO hB
  have hl:=r.length
  have hl2:=r2.length
  obtain ⟨cls,dd,data,sl⟩:=o1
  obtain ⟨cls2,dd2,data2,sl2⟩:=o2
  simp only at c1 d1 g1 c2 d2 g2
  subst c1 d1 g1 c2 d2 g2
  by_cases h1 : xs=[]
  · refine concat_meets ⟨_,e1,rfl⟩ ⟨_,e2,rfl⟩ noFill_tuple_add seq_tuple_add PySem.F.slot_tuple_add PySem.F.entry_tuple_add (PySem.F.args_tuple_add_2 _ _) (tuple_addW0 l b its.toArray its2.toArray n1 n2 none none sl sl2 ?_) ⟨e1,e2,?_⟩
    · rw [h1] at hl
      have : its=[]:=List.length_eq_zero_iff.mp hl.symm
      rw [this]
      rfl
    · exact ⟨.ref b,H,I,rfl,q0 h1⟩
  · have hi1 : ¬ its.toArray.isEmpty=true:=fun z=>h1 (by
      have : its=[]:=by simpa using z
      rw [this] at hl
      exact List.length_eq_zero_iff.mp hl)
    by_cases h2 : zs=[]
    · refine concat_meets ⟨_,e1,rfl⟩ ⟨_,e2,rfl⟩ noFill_tuple_add seq_tuple_add PySem.F.slot_tuple_add PySem.F.entry_tuple_add (PySem.F.args_tuple_add_2 _ _) (tuple_addW1 l b its.toArray its2.toArray n1 n2 none none sl sl2 hi1 ?_) ⟨e1,e2,?_⟩
      · rw [h2] at hl2
        have : its2=[]:=List.length_eq_zero_iff.mp hl2.symm
        rw [this]
        rfl
      · exact ⟨.ref l,H,I,rfl,q1 h1 h2⟩
    · have hi2 : ¬ its2.toArray.isEmpty=true:=fun z=>h2 (by
        have : its2=[]:=by simpa using z
        rw [this] at hl2
        exact List.length_eq_zero_iff.mp hl2)
      refine concat_meets ⟨_,e1,rfl⟩ ⟨_,e2,rfl⟩ noFill_tuple_add seq_tuple_add PySem.F.slot_tuple_add PySem.F.entry_tuple_add (PySem.F.args_tuple_add_2 _ _) (tuple_addW2 l b its.toArray its2.toArray n1 n2 none none sl sl2 hi1 hi2 (by rw [List.size_toArray,List.size_toArray]; omega)) ⟨e1,e2,?_⟩
      have ea : its.toArray ++ its2.toArray=(its ++ its2).toArray:=by simp
      rw [ea]
      refine ⟨.ref s.heap.objs.size,_,I.laid (t':=s.toks) (o:=.tup (xs ++ zs)) (fun b ob q=>Heap.get?_push_of_some _ q) (Nat.le_refl _) ?_,rfl,q2 h1 h2 _ (I.hok.fresh (Nat.le_refl _))⟩
      exact ⟨by rw [List.length_append]; omega,_,r.append r2,TupN.new _ _⟩
def catT : D->D->Option D
  | .tup ds,.tup es=>if ds.length + es.length≤sizeLine then some (.tup (ds ++ es)) else none
  | _,_=>none
theorem pd_catT (ha : PD X a f) (hb : PD X b g) : PD X (.BinOp a .Add b pos) (d2 catT f g):=(pe_op op_catU ha hb).imp fun σ H Q ⟨B,δ,d,hB,S,q,k⟩=>by
  obtain ⟨x,y,e1,e2,e3⟩:=z4Z q
  unfold catT at e3
  split at e3
  case h_2=>cases e3
  case h_1 ds es=>
  split at e3
  case isFalse=>cases e3
  case isTrue hl=>
  cases e3
  refine ⟨B,δ,_,hB,S,e1,fun v H1 s1 r1=>⟨B,δ,_,hB.mono s1,S.mono s1,e2,fun v2 H2 s2 r2=>?_⟩⟩
  unfold Rep at r1 r2
  obtain ⟨p1,vs,rfl,h1,rs1⟩:=r1
  obtain ⟨p2,ws,rfl,h2,rs2⟩:=r2
  have l1:=rs1.length
  have l2:=rs2.length
  refine ⟨p1,p2,vs,ws,rfl,rfl,s2.tup h1,h2,by rw [← l1,← l2]; exact hl,fun z=>?_,fun z1 z=>?_,fun z1 z2 p hp=>?_⟩
  · have hd : ds=[]:=List.length_eq_zero_iff.mp (by rw [l1,z]; rfl)
    refine k _ _ (s1.trans s2) ?_
    rw [hd,List.nil_append]
    unfold Rep
    exact ⟨p2,ws,rfl,h2,rs2⟩
  · have he : es=[]:=List.length_eq_zero_iff.mp (by rw [l2,z]; rfl)
    refine k _ _ (s1.trans s2) ?_
    rw [he,List.append_nil]
    unfold Rep
    exact ⟨p1,vs,rfl,s2.tup h1,rs1.mono s2⟩
  · have sp:=z0p (o:=.tup (vs ++ ws)) hp
    refine k _ _ ((s1.trans s2).trans sp) ?_
    unfold Rep
    exact ⟨p,vs ++ ws,rfl,SqT.of z0m,((rs1.mono s2).append rs2).mono sp⟩
end
end L2

/-! ### E60: `if not f(..):` where f may raise -/
namespace L2
open PySem PySem.Spec PyProof.Rows
section
variable {X : Cx} {c : Expr} {a b : List Stmt} {p2 pos : Pos} {H0 : Hp} {B0 : Addr->Prop} {fr : Bool} {RX : XR} {F : DS->Option XO} {g h : SS->Option Out}
def ifNX (F : DS->Option XO) (g h : SS->Option Out) : SS->Option Out:=fun δ=>(F (z0o δ)).bind fun o=>match o with
  | .val (.bl k)=>if k=true then h δ else g δ
  | .exc c=>some (.ex c δ)
  | _=>none
end
end L2

/-! ### E61: C(e) of a class of the program under ValueError,as a new thing -/
namespace L2
open PySem PySem.Spec PyProof.Rows
section
variable {X : Cx} {x : Str} {C : Addr} {np cpos : Pos} {e₀ : Expr} {te : TE} {f : DE}
end
end L2

/-! ### E62: for x in f(..) where f may raise -/
namespace L2
open PySem PySem.Spec PyProof.Rows
section
variable {X : Cx} {pos : Pos} {H0 : Hp} {B0 : Addr->Prop} {fr : Bool} {RX : XR} {F : DS->Option XO}
def forXO (i : Nat) (F : DS->Option XO) (g : SS->Option Out) : SS->Option Out:=fun δ=>(F (z0o δ)).bind fun o=>match o with
  | .val (.lst ds)=>z3R i g ds δ
  | .exc c=>some (.ex c δ)
  | _=>none
end
end L2

/-! ### E63: a def that takes over its second argument; return [x] -/
namespace L2
open PySem PySem.Spec PyProof.Rows
section
variable {P : Program} {w : World} {K : PySem.W.Frag} {mg : Str->Option Value} {base : Heap}
end
def dCallM2 (F : List D->Option D) (f0 f1 : DE) (fl : List DE) : DE:=fun δ=>(f0 δ).bind fun a=>(f1 δ).bind fun b=>(z0j fl δ).bind fun cs=>F (a :: b :: cs)
section
variable {X : Cx} {k : Nat} {x : Str} {p pos : Pos} {e e' : Expr} {es : List Expr}
variable {H0 : Hp} {B0 : Addr->Prop} {RX : XR} {a : Expr} {pos' : Pos}
def ret1 (i : Nat) : SS->Option Out:=fun δ=>(z4N δ i).map fun d=>.rt (.lst [d])
end
end L2

/-! ### E64: x.append(y) where y owns its list and is not read again ahead of its next assignment; written lists of lists of ints -/
namespace L2
open PySem PySem.Spec PyProof.Rows
section
variable {K : PySem.W.Frag} {H0 H : Hp} {B0 : Addr->Prop} {σ : St} {δ : SS} {R : Nat->List Addr}
def givS (i j : Nat) (d : D) (δ : SS) : SS:=((z0x i (z0x j δ)).set j none).set i (some (.ow d))
end
section
variable {X : Cx} {H0 : Hp} {B0 : Addr->Prop} {fr : Bool} {RX : XR} {e : Expr} {pos ap cp : Pos} {x : Str} {px : Pos}
def appO (i j : Nat) : SS->Option Out:=fun δ=>match δ[j]?,δ[i]? with
  | some (some (.ow d)),some (some (.ow (.lst ds)))=>(z5W ds [d]).map fun ds'=>.nx (givS i j (.lst ds') δ)
  | _,_=>none
end
/-! written lists of lists of ints -/
section
variable {X : Cx} {pos : Pos}
variable {H0 : Hp} {B0 : Addr->Prop} {fr : Bool} {RX : XR}
/-- a statement,a body: as PS and PSs,but never opened while terms are made (a written list is opened far too far) -/
@[irreducible] def PSb (X : Cx) (st : Stmt) (t : TS) : Prop:=PS X st t
@[irreducible] def PSsb (X : Cx) (st : List Stmt) (t : TS) : Prop:=PSs X st t
end
section
variable {P : Program} {w : World} {K : PySem.W.Frag} {mg : Str->Option Value} {base : Heap}
end
end L2

/-! ### E65: x[k].clear() -/
namespace L2
open PySem PySem.Spec PyProof.Rows
section
variable {X : Cx} {H0 : Hp} {B0 : Addr->Prop} {fr : Bool} {RX : XR} {x : Str} {px p2 ap cp pos : Pos} {ke : Expr} {fk : DE}
end
end L2

/-! ### E66: xs.extend(ys) of a shared ys whose items cannot change; written lists of tuples of ints -/
namespace L2
open PySem PySem.Spec PyProof.Rows
section
variable {X : Cx} {H0 : Hp} {B0 : Addr->Prop} {fr : Bool} {RX : XR} {e : Expr} {f : DE} {pos ap cp : Pos} {x : Str} {px : Pos}
def ext0D (i : Nat) (f : DE) : SS->Option Out:=fun δ=>(f (z0o δ)).bind fun d=>(match d,δ[i]? with
  | .lst es,some (some (.ow (.lst ds)))=>if z1l es=true∧ds.length + es.length≤sizeLine then some (.nx ((z0x i δ).set i (some (.ow (.lst (ds ++ es)))))) else none
  | _,_=>none)
end
section
variable {X : Cx} {pos : Pos}
variable {H0 : Hp} {B0 : Addr->Prop} {fr : Bool} {RX : XR}
end
end L2

/-! ### E67: isinstance(e,(A,B)) of an exception -/
namespace L2
open PySem PySem.Spec PyProof.Rows
section
variable {X : Cx} {e : Expr} {f : DE} {y z : Str} {p p2 p3 p4 pos : Pos} {x1 : Nat} {L M1 M2 N : List Str}
end
end L2

/-! ### E68: xs.count(x); xs[k]=a new thing -/
namespace L2
open PySem PySem.Spec PyProof.Rows
section
variable {X : Cx} {o e : Expr} {apos cpos : Pos}
end
section
variable {X : Cx} {H0 : Hp} {B0 : Addr->Prop} {fr : Bool} {RX : XR} {e ke : Expr} {pos : Pos} {x : Str} {px p2 : Pos}
def st0N (i : Nat) (fk fv : DE) : SS->Option Out:=fun δ=>(fv (z0o δ)).bind fun d=>(fk (z0o δ)).bind fun dk=>(match dk,δ[i]? with
  | .int k,some (some (.ow (.lst ds)))=>(ixN ds.length k).map fun j=>.nx ((z0x i δ).set i (some (.ow (.lst (ds.set j d)))))
  | _,_=>none)
end
end L2

/-! ### E69: loops that only look,over things that can change -/
namespace L2
open PySem PySem.Spec PyProof.Rows
theorem RepS.set {K : PySem.W.Frag} {H : Hp} {B : Addr->Prop} {σ : St} {δ : DS} {i : Nat} {d : D} {v : V} (h : RepS K H B (σ.set i (some v)) δ) (r : Rep K H B d v) (hi : i < σ.length) : RepS K H B (σ.set i (some v)) (δ.set i (some d)):=by
  refine ⟨by rw [List.length_set]; exact h.len,fun j d' q=>?_⟩
  by_cases hij : i=j
  · subst hij
    rw [List.getElem?_set] at q
    simp only [if_true] at q
    split at q
    · cases q
      exact ⟨v,by rw [List.getElem?_set_self hi],r⟩
    · cases q
  · rw [List.getElem?_set_ne hij] at q
    exact h.get j d' q
section
variable {X : Cx} {H0 : Hp} {B0 : Addr->Prop} {fr : Bool} {RX : XR} {pos : Pos}
end
end L2

/-! ### E70: x=f(..,y): an owned list y of ints is lent frozen,so that the list of ints that comes back is new -/
namespace L2
open PySem PySem.Spec PyProof.Rows
def hdI : List D->Bool
  | .int _ :: _=>true
  | _=>false
section
variable {K : PySem.W.Frag} {H : Hp} {B : Addr->Prop} {m : Addr} {xs : List V} {o : Obj}
theorem rep_int {i : Int} {d : D} (h : Rep K H B d (.int i)) : d = .int i:=by
  cases d <;> unfold Rep at h
  case int j=>cases h; rfl
  case non=>cases h
  case bl=>cases h
  case str=>cases h
  case scr=>obtain ⟨_,z,_⟩:=h; cases z
  all_goals (obtain ⟨_,_,z,_⟩:=h; cases z)
end
section
variable {X : Cx} {H0 : Hp} {B0 : Addr->Prop} {fr : Bool} {RX : XR} {st : Stmt}
end
end L2

/-! ### E71: x[0].append(n),x.append([]) of a shared list of lists of ints,at the end of the law: what may be of it is forgotten -/
namespace L2
open PySem PySem.Spec PyProof.Rows
mutual
def noJ : D->Bool
  | .lst ds=>!hdI ds && noJs ds
  | .non=>true
  | .bl _=>true
  | .int _=>true
  | .str _=>true
  | .tup _=>false
  | .scr _=>false
  | .dct _ _=>false
  | .exc _=>false
def noJs : List D->Bool
  | []=>true
  | d :: ds=>noJ d && noJs ds
end
section
variable {K : PySem.W.Frag} {H : Hp} {B : Addr->Prop} {m : Addr} {xs : List V}
mutual
theorem Rep.off (hm : H m=some (.lst xs)) (hx : ∀ ds,hdI ds=false->noJs ds=true->Reps K H B ds xs->False) : ∀ (d : D) {v : V},noJ d=true->Rep K H B d v->Rep K H (fun a=>B a∨a=m) d v
  | .non,_,_,h=>h
  | .bl _,_,_,h=>h
  | .int _,_,_,h=>h
  | .str _,_,_,h=>h
  | .tup _,_,n,_=>by unfold noJ at n; cases n
  | .scr _,_,n,_=>by unfold noJ at n; cases n
  | .dct _ _,_,n,_=>by unfold noJ at n; cases n
  | .exc _,_,n,_=>by unfold noJ at n; cases n
  | .lst ds,_,n,h=>by
    unfold noJ at n
    unfold Rep at h ⊢
    obtain ⟨a,ys,e,nb,ha,r⟩:=h
    obtain ⟨n1,n2⟩:=Bool.and_eq_true_iff.mp n
    refine ⟨a,ys,e,fun z=>?_,ha,Reps.off hm hx ds n2 r⟩
    rcases z with z | z
    · exact nb z
    · rw [z,hm] at ha
      cases ha
      exact hx ds (by simpa using n1) n2 r
theorem Reps.off (hm : H m=some (.lst xs)) (hx : ∀ ds,hdI ds=false->noJs ds=true->Reps K H B ds xs->False) : ∀ (ds : List D) {vs : List V},noJs ds=true->Reps K H B ds vs->Reps K H (fun a=>B a∨a=m) ds vs
  | [],_,_,h=>h
  | d :: ds,_,n,h=>by
    unfold noJs at n
    unfold Reps at h ⊢
    obtain ⟨x,r,e,rd,rs⟩:=h
    obtain ⟨n1,n2⟩:=Bool.and_eq_true_iff.mp n
    exact ⟨x,r,e,Rep.off hm hx d n1 rd,Reps.off hm hx ds n2 rs⟩
end
end
def y1I : Option SD->Option SD
  | some (.sh d)=>if noJ d=true then some (.sh d) else none
  | some (.ow d)=>some (.ow d)
  | _=>none
theorem y6B {o : Option SD} {d : D} (h : y1I o=some (.sh d)) : o=some (.sh d)∧noJ d=true:=by
  unfold y1I at h
  split at h
  · split at h
    · rename_i z; cases h; exact ⟨rfl,z⟩
    · cases h
  · cases h
  · cases h
theorem y6C {o : Option SD} {r : Nat} {d : D} (h : y1I o=some (.bo r d)) : False:=by
  unfold y1I at h
  split at h
  · split at h <;> cases h
  · cases h
  · cases h
section
variable {K : PySem.W.Frag} {H0 H H' : Hp} {B0 : Addr->Prop} {σ : St} {δ : SS} {R : Nat->List Addr}
/-- a cell that is nobody's own is written -/
theorem RS.wr {m : Addr} {xs ys : List V} (h : RS K H0 B0 H σ δ R) (hO : ∀ a xs,H0 a≠some (.lst xs)) (hk : ∀ x∈δ,y1I x=x) (hm : H m=some (.lst xs)) (nR : ∀ r,m ∉ R r)
    (hx : ∀ B ds,hdI ds=false->noJs ds=true->Reps K H B ds xs->False) : RS K H0 B0 (upd H m (.lst ys)) σ δ R:=by
  have mu : Mut (H m):=by rw [hm]; exact trivial
  have nm : ∀ r a,a∈R r->a≠m:=fun r a z w=>nR r (w ▸ z)
  refine ⟨fun a u q=>?_,h.inB,h.len,h.new,fun r a z=>?_,h.disj,fun i d q=>?_,fun i r d q=>?_,fun i d q=>?_⟩
  · have ne : a≠m:=fun w=>by
      have:=h.keep a u q
      rw [w,hm] at this
      cases this
      exact hO a xs q
    rw [z0s ne]
    exact h.keep a u q
  · rw [z0s (nm r a z)]
    exact h.held r a z
  · obtain ⟨v,e,r⟩:=h.sh i d q
    have n:=(y6B (hk _ (List.mem_of_getElem? q))).2
    exact ⟨v,e,(Rep.keep (Keep.upd (.inr rfl) mu) d (Rep.off hm (hx _) d n r)).anti fun a z=>.inl z⟩
  · exact (y6C (hk _ (List.mem_of_getElem? q))).elim
  · obtain ⟨v,e,t,nd⟩:=h.ow i d q
    refine ⟨v,e,Tree.keep (Keep.upd (K:=K) (B:=fun x=>x=m) rfl mu).i d t fun a ha o z=>?_,nd⟩
    rw [z0s (nm i a ha)]
    exact z
end
section
variable {X : Cx} {H0 : Hp} {B0 : Addr->Prop} {fr : Bool} {RX : XR} {st1 st2 : Stmt} {sts : List Stmt} {f : DE} {z : Int}
end
end L2

/-! ### E72: the law's def where nothing but the script is there at the z4K -/
namespace L2
open PySem PySem.Spec PyProof.Rows
def noL (H : Hp) : Prop:=∀ a xs,H a≠some (.lst xs)
def spNO (K : PySem.W.Frag) (F : List D->Option D) : Sp:=fun vs H Q E=>noL H∧spN K F vs H Q E
def y0x (K : PySem.W.Frag) (F : List D->Option D) : Sp:=fun vs H Q E=>noL H∧spLaw K F vs H Q E
theorem y6b {H : Hp} (hO : Only H) : noL H:=fun a xs z=>by
  rcases hO a with e | ⟨o,ys,e⟩ <;> (rw [e] at z; cases z)
section
variable {P : Program} {w : World} {K : PySem.W.Frag} {mg : Str->Option Value} {base : Heap}
theorem fnNO {x qual : Str} {st : Stmt} {f : Addr} {fd : FuncData} {N ps : List Str} {k np nl : Nat} {g : SS->Option Out} (F : Fun K x qual st f fd) (S : FnScope N ps (z0b st)) (hnp : ps.length=np) (hN : N.length=np + nl)
    (hbody : ∀ (cdv : Value) (A : Around) (outer : List Env) (s : Shared) (H : Hp) (E : XK),Room k (A.deeper (envOfC qual (z0b st) s.heap.objs.size f cdv))->noL H →
      PSs (z8q CX0 P w K mg base N qual (z0b st) f cdv A outer s H E).nox (z0n st) (tS K H noB true noX g)) : FnOk P w K mg base CX0 (k + 1) f fd ps (spNO K (z2L np nl g)):=by
  refine F.ok S (fun vs H Q E h=>?_) fun cdv A outer s H vs Q E hr h=>?_
  · obtain ⟨_,ds,d,r,e,_⟩:=h
    rw [← r.length,z3q e,hnp]
  · obtain ⟨hO,ds,d,r,e,kk⟩:=h
    refine ⟨_,hbody cdv A outer s H E hr hO,?_⟩
    have hl:=z3q e
    unfold z2L at e
    rw [if_pos hl] at e
    have rs:=z3M (nl:=nl) .no r (N:=N) (by omega)
    split at e
    · rename_i d' eg
      cases e
      exact ⟨_,_,_,rs,eg,fun v H' z _=>by
        obtain ⟨A',t,nd,fr⟩:=z.2.1 rfl
        exact kk v H' A' z.1 t nd fr⟩
    · rename_i δ' eg
      cases e
      exact ⟨_,_,_,rs,eg,fun σ' H' R' rs' _=>kk .non H' [] rs'.keep ⟨rfl,rfl⟩ List.nodup_nil (fun a z=>nomatch z)⟩
    · cases e
theorem law_ofO {k : Nat} {f : Addr} {fd : FuncData} {ps : List Str} {F : List D->Option D} (h : FnOk P w K mg base CX0 k f fd ps (spNO K F)) : FnOk P w K mg base CX0 k f fd ps (y0x K F):=by
  refine h.imp fun vs H Q E z=>?_
  obtain ⟨hO,a,ns,rfl,hq,e,q⟩:=z
  refine ⟨hO,[.scr ns],.bl true,.cons ?_ .nil,e,fun v H' A s t nd fr=>?_⟩
  · unfold Rep
    exact ⟨a,rfl,hq⟩
  · cases (show v=V.bl true∧_ from t).1
    exact q H'
end
section
variable {X : Cx} {e : Expr} {pos ap cp p2 : Pos} {x : Str} {px : Pos} {f : DE} {z : Int} {ke : Expr}
end
end L2

/-! ### E73: min of a list of ints,frozen or not -/
namespace L2
open PySem PySem.Spec PyProof.Rows
section
variable {X : Cx}
variable {e : Expr} {f : DE} {p pos : Pos}
end
end L2

/-! ### E74: xs.append(ys.pop(0)) of two owned lists of ints -/
namespace L2
open PySem PySem.Spec PyProof.Rows
section
variable {X : Cx} {H0 : Hp} {B0 : Addr->Prop} {fr : Bool} {RX : XR} {e : Expr} {pos ap cp ap2 cp2 : Pos} {x y : Str} {px py : Pos}
end
end L2

/-! ### E75: zip of two sequences,its pairs taken apart at once -/
namespace L2
open PySem PySem.Spec PyProof.Rows
section
variable {prog : Program} {w : World} {A : Around} {E : Value->Shared->Prop} {s : Shared} {it t : Addr} {i : Nat} {its : Array Value} {Q : Fin->Shared->Prop} {o ol : Obj} {n : Nat} {x : Value}
end
section
variable {prog : Program} {w : World} {A : Around} {E : Value->Shared->Prop} {s : Shared} {z TI TO i1 i2 : Addr} {a b : Value}
/-- what is not one of these stays -/
def Stay (xs : List Addr) (h h' : Heap) : Prop:=∀ c o,c ∉ xs->h.get? c=some o->h'.get? c=some o
theorem Stay.but {c : Addr} {xs : List Addr} {h h1 h2 : Heap} (k : Stay xs h h1) (e : Heap.ExtBut c h1 h2) (hc : c∈xs) : Stay xs h h2:=fun b o hb q=>e b o (fun z=>hb (z ▸ hc)) (k b o hb q)
theorem Stay.one {c : Addr} {xs : List Addr} {h h1 : Heap} (e : Heap.ExtBut c h h1) (hc : c∈xs) : Stay xs h h1:=fun b o hb q=>e b o (fun z=>hb (z ▸ hc)) q
theorem Stay.wide {xs ys : List Addr} {h h1 : Heap} (k : Stay xs h h1) (e : ∀ c∈xs,c∈ys) : Stay ys h h1:=fun b o hb q=>k b o (fun z=>hb (e b z)) q

end
section
variable {prog : Program} {w : World} {A : Around} {E : Value->Shared->Prop} {s : Shared} {z TI TO i1 i2 : Addr} {a b : Value}
/-! zip(tuple,list) -/
end
end L2

/-! ### E76: zip as what is gone through -/
namespace L2
open PySem PySem.Spec PyProof.Rows
/-! a tuple (true) or a list (false) -/
def SIt (h : Heap) (tp : Bool) (it a : Addr) (i : Nat) : Prop:=if tp=true then h.IsTupleIter it a i else h.IsListIter it a i
def SSq (h : Heap) (tp : Bool) (a : Addr) (its : Array Value) : Prop:=if tp=true then h.IsTuple a its else h.IsList a its
theorem SIt.obj {h : Heap} {tp : Bool} {it a : Addr} {i : Nat} (x : SIt h tp it a i) : ∃ o,h.get? it=some o∧(o.cls = .type "tuple_iterator" ∨ o.cls = .type "list_iterator")∧∃ vs,o.data = .fields vs:=by
  cases tp with
  | true=>obtain ⟨o,e,c,d⟩:=(show h.IsTupleIter it a i from x); exact ⟨o,e,.inl c,_,d⟩
  | false=>obtain ⟨o,e,c,d⟩:=(show h.IsListIter it a i from x); exact ⟨o,e,.inr c,_,d⟩
theorem SSq.obj {h : Heap} {tp : Bool} {a : Addr} {its : Array Value} (x : SSq h tp a its) : ∃ o,h.get? a=some o∧(o.cls = .type "tuple" ∨ o.cls = .type "list"):=by
  cases tp with
  | true=>obtain ⟨o,e,c,_⟩:=(show h.IsTuple a its from x); exact ⟨o,e,.inl c⟩
  | false=>obtain ⟨o,e,c,_⟩:=(show h.IsList a its from x); exact ⟨o,e,.inr c⟩
theorem SIt.at {h h' : Heap} {tp : Bool} {it a : Addr} {i : Nat} (x : SIt h tp it a i) (k : ∀ o,h.get? it=some o->h'.get? it=some o) : SIt h' tp it a i:=by
  cases tp with
  | true=>obtain ⟨o,e,r⟩:=(show h.IsTupleIter it a i from x); exact ⟨o,k o e,r⟩
  | false=>obtain ⟨o,e,r⟩:=(show h.IsListIter it a i from x); exact ⟨o,k o e,r⟩
theorem SSq.at {h h' : Heap} {tp : Bool} {a : Addr} {its : Array Value} (x : SSq h tp a its) (k : ∀ o,h.get? a=some o->h'.get? a=some o) : SSq h' tp a its:=by
  cases tp with
  | true=>obtain ⟨o,e,r⟩:=(show h.IsTuple a its from x); exact ⟨o,k o e,r⟩
  | false=>obtain ⟨o,e,r⟩:=(show h.IsList a its from x); exact ⟨o,k o e,r⟩
section
variable {X : Cx} {pins : List (Addr × Obj)} {σ : St} {H : Hp} {s : Shared} {a : Addr} {xs ys : List V} {tp : Bool}
end
/-- where the two of them and the zip's own things stand -/
structure ZipAt (h : Heap) (tp : Bool) (a b z TI TO i1 i2 : Addr) (i : Nat) : Prop where
  zip : IsZip h z TI TO .none
  its : IsPair h TI (.ref i1) (.ref i2)
  out : ∃ u v,IsPair h TO u v
  one : SIt h tp i1 a i
  two : SIt h false i2 b i
end L2

/-! ### E77: lists of ints that are changed no more are frozen: they are then as the script is,things that cannot change -/
namespace L2
open PySem PySem.Spec PyProof.Rows
section
variable {ob : Addr->Obj} {L : Addr->Bool} {H : Hp} {a : Addr}
end
section
variable {K : PySem.W.Frag} {ob : Addr->Obj} {L : Addr->Bool} {H0 H : Hp} {B B0 : Addr->Prop} {σ : St} {δ : SS} {R : Nat->List Addr}
end
/-! [[1,2],[3]]: the inner ones -/
section
variable {K : PySem.W.Frag} {ob : Addr->Obj} {L : Addr->Bool} {H : Hp}
end
/-! ahead of a statement: an owned list of ints; the inner lists of an owned list -/
section
variable {X : Cx} {H0 : Hp} {B0 : Addr->Prop} {fr : Bool} {RX : XR} {st : Stmt}
end
end L2

/-! ### E78: x in xs,where xs may be frozen; tuple(xs) of such a one -/
namespace L2
open PySem PySem.Spec PyProof.Rows
section
variable {X : Cx}
variable {a b : Expr} {f g : DE} {pos : Pos}
/-! tuple(xs) -/
end
end L2

/-! ### E79: max(xs) and len(set(xs)) of a tuple of ints; {"a": x, "b": y} -/
namespace PySem
section
variable {prog : Program} {w : World} {A : Around} {E : Value->Shared->Prop} {s : Shared}
set_option maxHeartbeats 3200000 in
open PyProof.Rows in
end
end PySem
namespace L2
open PySem PySem.Spec PyProof.Rows
section
variable {X : Cx} {e : Expr} {te : TE} {p p' pos pos' : Pos}
variable {f : DE}
/-! max of a tuple -/
/-! {"a": x, "b": y},x and y things that cannot change -/
end
end L2

/-! ### E80: a dict of two words -/
namespace L2
open PySem PySem.Spec PyProof.Rows
section
variable {X : Cx} {ka va kb vb : Expr} {pos : Pos} {fa fb fc fd : DE}
end
end L2

/-! ### E81: name=[elt for a,b in iter if c] -/
namespace L2
open PySem PySem.Spec PyProof.Rows
section
variable {X : Cx} {N' : List Str} {sc : Scope} {iter elt : Expr} {ifs : List Expr} {n : Nat} {x x' : Str} {px px' tp pos : Pos} {x1 : Nat} {fi : DS->Option (List D)} {fc : DS->Option Bool} {fe : DE}
theorem pas_cF2 {i : Nat} {y : Str} {py spos : Pos} (hN : X.N.Nodup) (hy : X.N[i]? = some y) (hyl : X.env.scope.names.lookup y=some .local) (hc : X.calm=true) (S : CompScope X.N X.env.scope.names N' 2 sc) (hn : n=X.N.length) (hi : PID X (.Tuple [.Name x px,.Name x' px'] x1 tp) iter fi)
    (hg : ∀ s H fp pins E,PG (z0L X N' sc s H fp pins E) (.Tuple [.Name x px,.Name x' px'] x1 tp) (gTwo X.K n)) (ht : ∀ s H fp pins E,y6w (z0L X N' sc s H fp pins E) ifs (tT X.K fc)) (he : ∀ s H fp pins E,PE (z0L X N' sc s H fp pins E) elt (tD X.K fe))
    (hsw : swapsWith (.ListComp elt [⟨.Tuple [.Name x px,.Name x' px'] x1 tp,iter,ifs,0⟩] sc pos) (some (.Name y py)) spos.line X.env=pure true:=by rfl) (hs : ∀ x,foldedSetIterable iter X.env x=pure x:=by intro _; rfl) :
    PS X (.Assign [.Name y py] (.ListComp elt [⟨.Tuple [.Name x px,.Name x' px'] x1 tp,iter,ifs,0⟩] sc pos) spos) (tAsg (tF X.K (z6g fi fc fe)) (z3u i)):=fun pins s σ H D I hq=>
  y3v hc S hN hy hyl hi ⟨hg,ht,he⟩ hsw hs pins s σ H D I (y5n (by rw [hn,I.len]) hq)
end
end L2

/-! ### E82: defs that may raise and hand back what is shared -/
namespace L2
open PySem PySem.Spec PyProof.Rows
def spXS (K : PySem.W.Frag) (cl : Nat->Value) (m : List D->Option XO) : Sp:=fun vs H Q E=>∃ B ds o,InB B H∧Reps K H B ds vs∧m ds=some o∧(match o with
  | .val d=>∀ v H',Same H H'->Rep K H' B d v->Q v H'
  | .exc c=>∀ H',Same H H'->E (cl c) none H')
section
variable {P : Program} {w : World} {K : PySem.W.Frag} {mg : Str->Option Value} {base : Heap}
theorem fnXS {x qual : Str} {st : Stmt} {f : Addr} {fd : FuncData} {N ps : List Str} {k np nl : Nat} {g : SS->Option Out} {cl : Nat->Value} (F : Fun K x qual st f fd) (S : FnScope N ps (z0b st)) (hnp : ps.length=np) (hN : N.length=np + nl)
    (hbody : ∀ (cdv : Value) (A : Around) (outer : List Env) (s : Shared) (H : Hp) (E : XK) (B : Addr->Prop),Room k (A.deeper (envOfC qual (z0b st) s.heap.objs.size f cdv)) →
      PSs (z8q (CXE P w) P w K mg base N qual (z0b st) f cdv A outer s H E) (z0n st) (tS K H B false (y5F cl E) g)) : FnOk P w K mg base (CXE P w) (k + 1) f fd ps (spXS K cl (y0C np nl g)):=by
  obtain ⟨oc,od,kV,doc,pm,an,cdv,ct,osl,rfl,lk,hcd⟩:=F.ex
  refine fn_of lk hcd S (fun vs H Q E h=>?_) fun A outer s H vs Q E hr h=>?_
  · obtain ⟨B,ds,o,_,r,e,_⟩:=h
    rw [← r.length,z4M e,hnp]
  · obtain ⟨B,ds,o,hB,r,e,kk⟩:=h
    refine ⟨_,hbody cdv A outer s H E B hr,?_⟩
    have hl:=z4M e
    unfold y0C at e
    rw [if_pos hl] at e
    have rs:=z3M (nl:=nl) hB r (N:=N) (by omega)
    split at e
    · rename_i d' eg
      cases e
      exact ⟨_,_,_,rs,eg,fun v H' z _=>kk v H' z.1 (z.2.2 rfl)⟩
    · rename_i δ' eg
      cases e
      exact ⟨_,_,_,rs,eg,fun σ' H' R' rs' _=>kk .non H' rs'.keep rfl⟩
    · rename_i c δ' eg
      cases e
      exact ⟨_,_,_,rs,eg,fun σ' H' R' rs' _=>kk H' rs'.keep⟩
    · cases e
end
section
variable {X : Cx} {k : Nat} {sp : Sp} {cl : Nat->Value} {RX : XR} {x : Str} {p pos pos2 : Pos} {e : Expr} {es : List Expr} {t : TA}
def tXS (K : PySem.W.Frag) (RX : XR) (F : DS->Option XO) : TE:=fun σ H Q=>∃ B δ o,InB B H∧RepS K H B σ δ∧F δ=some o∧(match o with
  | .val d=>∀ v H',Same H H'->Rep K H' B d v->Q v H'
  | .exc c=>∀ H',Same H H'->RX c σ H')
theorem z9k {m : List D->Option XO} {fl : List DE} (G : DefX X.prog X.w X.K X.mg X.base k x (spXS X.K cl m)) (hr : Room k X.A) (hg : Gl X x) (hW : XW X cl RX) (ha : PAD X (e :: es) fl) (hdb : (x == ("__debug__" : Str))=false:=by decide)
    (he : starEach (e :: es) X.env=(false,eval e X.env) :: starEach es X.env:=by rfl) (hpl : (backTo pos (starEach es X.env)).any (·.1)=false:=by rfl) : PE X (.Call (.Name x p) (e :: es) [] pos) (tXS X.K RX (z4d m fl)):=
  (z9V G hr hg hW ha hdb he hpl).imp fun σ H Q ⟨B,δ,o,hB,S,q,kk⟩=>by
    unfold z4d at q
    cases e1 : z0j fl δ with
    | none=>rw [e1] at q; cases q
    | some ds=>
      rw [e1,Option.bind_some] at q
      refine ⟨B,δ,ds,hB,S,e1,fun vs H1 s1 r1=>⟨B,ds,o,hB.mono s1,r1,q,?_⟩⟩
      cases o with
      | val d=>exact fun v H' s' r=>kk v H' (s1.trans s') r
      | exc c=>exact fun H' s'=>⟨c,rfl,kk H' (s1.trans s')⟩
theorem z8d {m : List D->Option XO} {fl : List DE} (G : DefX X.prog X.w X.K X.mg X.base k x (spXS X.K cl m)) (hr : Room k X.A) (hg : Gl X x) (ha : PAD X (e :: es) fl) (hdb : (x == ("__debug__" : Str))=false:=by decide)
    (he : starEach (e :: es) X.env=(false,eval e X.env) :: starEach es X.env:=by rfl) (hpl : (backTo pos (starEach es X.env)).any (·.1)=false:=by rfl) : PD X (.Call (.Name x p) (e :: es) [] pos) (z8v m fl):=
  (z9k (RX:=noX) G hr hg xw_no ha hdb he hpl).imp fun σ H Q ⟨B,δ,d,hB,S,q,kk⟩=>by
    unfold z8v at q
    cases e1 : z4d m fl δ with
    | none=>rw [e1] at q; cases q
    | some o=>
      rw [e1] at q
      cases o with
      | exc c=>cases q
      | val d'=>
        cases q
        exact ⟨B,δ,.val d,hB,S,e1,kk⟩
variable {H0 : Hp} {B0 : Addr->Prop} {fr : Bool} {F : DS->Option XO}
theorem y6W (h : PE X e (tXS X.K RX F)) (hs : swapsWith e none pos.line X.env=pure false:=by rfl) : PS X (.Expr e pos) (tS X.K H0 B0 fr RX (z7B F)):=PS.imp (z5c h hs) fun D σ H ⟨δ,R,o,rs,q,k⟩=>by
  unfold z7B at q
  cases e1 : F (z0o δ) with
  | none=>rw [e1] at q; cases q
  | some o1=>
    rw [e1] at q
    refine ⟨noB,z0o δ,o1,.no,rs.all,e1,?_⟩
    cases o1 with
    | val d=>
      cases q
      exact fun v H' s _=>k σ H' R (rs.mono s) (Stp.same s)
    | exc c=>
      cases q
      exact fun H' s=>k σ H' R (rs.mono s) (.same s)
end
end L2

/-! ### E83: x[1].append(n) of a shared tuple (word,list of ints),at the end of the law: what may be of it is forgotten -/
namespace L2
open PySem PySem.Spec PyProof.Rows
mutual
def noK : D->Bool
  | .lst ds=>!hdI ds && y4P ds
  | .tup ds=>y4P ds
  | .non=>true
  | .bl _=>true
  | .int _=>true
  | .str _=>true
  | .scr _=>true
  | .dct _ _=>false
  | .exc _=>false
def y4P : List D->Bool
  | []=>true
  | d :: ds=>noK d && y4P ds
end
section
variable {K : PySem.W.Frag} {H : Hp} {B : Addr->Prop} {m : Addr} {c : Int} {ys : List V}
theorem y6I : ∀ ds,hdI ds=false->Reps K H B ds (.int c :: ys)->False:=fun ds h r=>by
  cases ds with
  | nil=>unfold Reps at r; cases r
  | cons d ds=>
    unfold Reps at r
    obtain ⟨x,r',e,rd,_⟩:=r
    cases e
    rw [rep_int rd] at h
    cases h
mutual
theorem Rep.offK (hm : H m=some (.lst (.int c :: ys))) : ∀ (d : D) {v : V},noK d=true->Rep K H B d v->Rep K H (fun a=>B a∨a=m) d v
  | .non,_,_,h=>h
  | .bl _,_,_,h=>h
  | .int _,_,_,h=>h
  | .str _,_,_,h=>h
  | .scr _,_,_,h=>h
  | .tup ds,_,n,h=>by
    unfold noK at n
    unfold Rep at h ⊢
    obtain ⟨a,xs,e,hs,r⟩:=h
    exact ⟨a,xs,e,hs,Reps.offK hm ds n r⟩
  | .dct _ _,_,n,_=>by unfold noK at n; cases n
  | .exc _,_,n,_=>by unfold noK at n; cases n
  | .lst ds,_,n,h=>by
    unfold noK at n
    unfold Rep at h ⊢
    obtain ⟨a,zs,e,nb,ha,r⟩:=h
    obtain ⟨n1,n2⟩:=Bool.and_eq_true_iff.mp n
    refine ⟨a,zs,e,fun z=>?_,ha,Reps.offK hm ds n2 r⟩
    rcases z with z | z
    · exact nb z
    · rw [z,hm] at ha
      cases ha
      exact y6I ds (by simpa using n1) r
theorem Reps.offK (hm : H m=some (.lst (.int c :: ys))) : ∀ (ds : List D) {vs : List V},y4P ds=true->Reps K H B ds vs->Reps K H (fun a=>B a∨a=m) ds vs
  | [],_,_,h=>h
  | d :: ds,_,n,h=>by
    unfold y4P at n
    unfold Reps at h ⊢
    obtain ⟨x,r,e,rd,rs⟩:=h
    obtain ⟨n1,n2⟩:=Bool.and_eq_true_iff.mp n
    exact ⟨x,r,e,Rep.offK hm d n1 rd,Reps.offK hm ds n2 rs⟩
end
end
def z4J : Option SD->Option SD
  | some (.sh d)=>if noK d=true then some (.sh d) else none
  | some (.ow d)=>some (.ow d)
  | _=>none
theorem y5Y {o : Option SD} {d : D} (h : z4J o=some (.sh d)) : o=some (.sh d)∧noK d=true:=by
  unfold z4J at h
  split at h
  · split at h
    · rename_i z; cases h; exact ⟨rfl,z⟩
    · cases h
  · cases h
  · cases h
theorem y6K {o : Option SD} {d : D} (h : z4J o=some (.ow d)) : o=some (.ow d):=by
  unfold z4J at h
  split at h
  · split at h <;> cases h
  · cases h; rfl
  · cases h
theorem y6N {o : Option SD} {r : Nat} {d : D} (h : z4J o=some (.bo r d)) : False:=by
  unfold z4J at h
  split at h
  · split at h <;> cases h
  · cases h
  · cases h
theorem y4v {δ : SS} {k : Nat} {x : SD} (h : (δ.map z4J)[k]? = some (some x)) : ∃ o,δ[k]? = some o∧z4J o=some x:=by
  rw [List.getElem?_map] at h
  exact Option.map_eq_some_iff.mp h
section
variable {K : PySem.W.Frag} {H0 H H' : Hp} {B0 : Addr->Prop} {σ : St} {δ : SS} {R : Nat->List Addr}
theorem RS.wrK {m : Addr} {c : Int} {xs ys : List V} (h : RS K H0 B0 H σ δ R) (hO : ∀ a xs,H0 a≠some (.lst xs)) (hm : H m=some (.lst (.int c :: xs))) (nR : ∀ r,m ∉ R r) : RS K H0 B0 (upd H m (.lst ys)) σ (δ.map z4J) R:=by
  have mu : Mut (H m):=by rw [hm]; exact trivial
  have nm : ∀ r a,a∈R r->a≠m:=fun r a z w=>nR r (w ▸ z)
  refine ⟨fun a u q=>?_,h.inB,by rw [List.length_map]; exact h.len,h.new,fun r a z=>?_,h.disj,fun i d q=>?_,fun i r d q=>?_,fun i d q=>?_⟩
  · have ne : a≠m:=fun w=>by
      have:=h.keep a u q
      rw [w,hm] at this
      cases this
      exact hO a _ q
    rw [z0s ne]
    exact h.keep a u q
  · rw [z0s (nm r a z)]
    exact h.held r a z
  · obtain ⟨o,e,z⟩:=y4v q
    obtain ⟨z1,n⟩:=y5Y z
    rw [z1] at e
    obtain ⟨v,e,r⟩:=h.sh i d e
    exact ⟨v,e,(Rep.keep (Keep.upd (.inr rfl) mu) d (Rep.offK hm d n r)).anti fun a z=>.inl z⟩
  · obtain ⟨o,e,z⟩:=y4v q
    exact (y6N z).elim
  · obtain ⟨o,e,z⟩:=y4v q
    rw [y6K z] at e
    obtain ⟨v,e,t,nd⟩:=h.ow i d e
    refine ⟨v,e,Tree.keep (Keep.upd (K:=K) (B:=fun x=>x=m) rfl mu).i d t fun a ha o z=>?_,nd⟩
    rw [z0s (nm i a ha)]
    exact z
end
def fgT (i : Nat) (f : DE) (h : SS->Option Out) : SS->Option Out:=fun δ=>match δ[i]?,f (z0o δ) with
  | some (some (.sh (.tup (_ :: .lst (.int _ :: es) :: _)))),some (.int _)=>if es.length + 1 < sizeLine then (h (δ.map z4J)).bind fun o=>match o with
    | .rt d=>some (.rt d)
    | _=>none else none
  | _,_=>none
section
variable {X : Cx} {H0 : Hp} {B0 : Addr->Prop} {fr : Bool} {RX : XR} {st1 : Stmt} {sts : List Stmt} {f : DE} {x : Str} {px p2 ap cp pos : Pos} {ke e : Expr}
theorem ss_fgT {i : Nat} {h : SS->Option Out} (hO : ∀ a xs,H0 a≠some (.lst xs)) (h1 : PS X st1 (y6s (tBM X.K "list" z7b (tOp (rIxT X.K) (z9Y i) (tD X.K (dC (.int 1)))) (tDs X.K (z0j [f]))))) (hr : PSs X sts (tS X.K H0 B0 fr RX h)) :
    PSs X (st1 :: sts) (tS X.K H0 B0 fr RX (fgT i f h)):=(y0J h1 hr).imp fun D σ H ⟨δ,R,o,rs,q,k⟩=>by
  unfold fgT at q
  split at q
  case h_2=>cases q
  case h_1 d0 c es ds z ei ez=>
  split at q
  case isFalse=>cases q
  case isTrue hsz=>
  cases eh : h (δ.map z4J) with
  | none=>rw [eh] at q; cases q
  | some o1=>
  rw [eh] at q
  cases o1 with
  | rt d=>
    cases q
    obtain ⟨v,ev,rv⟩:=rs.sh i _ ei
    unfold Rep at rv
    obtain ⟨fa,xs,rfl,hfa,rx⟩:=rv
    unfold Reps at rx
    obtain ⟨x0,xr,rfl,r0,rxr⟩:=rx
    unfold Reps at rxr
    obtain ⟨x1,xr2,rfl,r1,_⟩:=rxr
    unfold Rep at r1
    obtain ⟨b,ys,rfl,nb,hb,ry⟩:=r1
    have ly:=ry.length
    unfold Reps at ry
    obtain ⟨y0,yr,rfl,rc,_⟩:=ry
    unfold Rep at rc
    subst rc
    have nbR : ∀ r,b ∉ R r:=fun r w=>nb (.inr ⟨r,w⟩)
    refine ⟨.ref fa,ev,noB,z0o δ,.int 1,.no,rs.all,rfl,fun v1 H1 s1 r1=>?_⟩
    cases (show v1=V.int 1 from r1)
    refine ⟨fa,_,1,.ref b,rfl,rfl,s1.tup hfa,?_,.inl ⟨rfl,_,SqL.of (s1 _ _ hb)⟩,noB,z0o δ,[.int z],.no,rs.all.mono s1,?_,fun vs H2 s2 r2=>?_⟩
    · show ((ixN (x0 :: V.ref b :: xr2).length 1).bind fun j=>(x0 :: V.ref b :: xr2)[j]?)=some (V.ref b)
      have : ixN (x0 :: V.ref b :: xr2).length ((1 : Nat) : Int)=some 1:=by
        unfold ixN
        rw [if_pos (by omega),if_pos (by simp; omega)]
        rfl
      rw [show (1 : Int)=((1 : Nat) : Int) from rfl,this]
      rfl
    · unfold z0j
      rw [ez]
      rfl
    unfold Reps at r2
    obtain ⟨v2,rr,rfl,r3,r4⟩:=r2
    unfold Reps at r4
    subst r4
    cases (show v2=V.int z from r3)
    have s12:=s1.trans s2
    refine ⟨b,_,_,rfl,rfl,s12 _ _ hb,?_,?_⟩
    · simp at ly ⊢; omega
    · have R1:=(rs.mono s12).wrK (ys:=(.int c :: yr) ++ [.int z]) hO (s12 _ _ hb) nbR
      refine ⟨_,R,_,R1,eh,fun v' H' rt th=>k v' H' rt fun a w=>?_⟩
      have w1:=th a w
      have n1 : a≠b:=fun e=>by rw [e,z0m] at w1; cases w1
      rw [z0s n1] at w1
      exact s12.free w1
  | _=>cases q
theorem s_fgT {i : Nat} (hx : PE X (.Name x px) (z9Y i)) (hk : PD X ke (dC (.int 1))) (ha : PAD X [e] [f]) (hpi : z6x ke:=by intro _ _; rfl)
    (hbase : attributeBase (.Subscript (.Name x px) ke p2) "append" X.env (eval (.Subscript (.Name x px) ke p2) X.env)=eval (.Subscript (.Name x px) ke p2) X.env:=by rfl)
    (hfew : ((backTo cp (starEach [e] X.env)).all (fun x=>!x.1) && (backToKw cp (keywordEach [] X.env)).all (fun x=>x.1.isSome) && decide ([e].length + ([] : List Keyword).length + (if ([] : List Keyword).isEmpty then 0 else 1) < 30))=true:=by rfl)
    (hline : (ap.endLine == cp.line)=true:=by rfl) (hs : starEach [e] X.env=(false,eval e X.env) :: starEach [] X.env:=by rfl)
    (hsw : swapsWith (.Call (.Attribute (.Subscript (.Name x px) ke p2) "append" ap) [e] [] cp) none pos.line X.env=pure false:=by rfl) :
    PS X (.Expr (.Call (.Attribute (.Subscript (.Name x px) ke p2) "append" ap) [e] [] cp) pos) (y6s (tBM X.K "list" z7b (tOp (rIxT X.K) (z9Y i) (tD X.K (dC (.int 1)))) (tDs X.K (z0j [f])))):=
  z5c (y6R PySem.F.plainAttrs_list PySem.F.slot_list_append PySem.F.type_list_append z2f (pe_ix ix_tup hx hk hpi) ha hbase hfew hline hs rfl) hsw
end
end L2

/-! ### M1: reckoning with the trees' functions -/
namespace L2
open PySem

/-! statements -/
theorem y2V {np nl : Nat} {g : SS->Option Out} {ds : List D} {d : D} (hl : ds.length=np) (e : g (ds.map (fun d=>some (.sh d)) ++ List.replicate nl none)=some (.rt d)) : z2L np nl g ds=some d:=by
  unfold z2L
  rw [if_pos hl,e]


/-! comprehensions -/
theorem z3r {n : Nat} (h : n≤1000000) : n≤sizeLine:=by rw [PySem.sizeLine_eq]; omega

/-! values -/
def bD (b : Bool) : D:=.bl b
def rowD (r : List Bool) : D:=.lst (r.map bD)
def tabD (T : List (List Bool)) : D:=.lst (T.map rowD)
theorem y5l {ds : List D} {k : Nat} {d : D} (h : ds[k]? = some d) : ixD (.lst ds) (.int (k : Int))=some d:=z0Z h
theorem z7N : ∀ bs : List Bool,z4s (bs.map bD)=some bs
  | []=>rfl
  | b :: bs=>by
    show (z4s (bs.map bD)).map (b :: ·)=_
    rw [z7N bs]
    rfl
end L2

/-! ### M2: tables of z4s -/
namespace L2
open PySem
theorem eq_self {d : D} (h : okP d=true) : eqD d d=some (.bl true):=by
  unfold eqD
  rw [h]
  show (if (true && true)=true then some (D.bl (PyData.eqv (toP d) (toP d))) else none)=_
  rw [if_pos (show (true && true)=true from rfl),SeqAt.eqv_refl _ (z0E h).1]
theorem eqB (a b : Bool) : eqD (.bl a) (.bl b)=some (.bl (a == b)):=rfl
theorem row_ix {r : List Bool} {k : Nat} (h : k < r.length) : ixD (rowD r) (.int (k : Int))=some (.bl r[k]):=y5l (by rw [List.getElem?_map,List.getElem?_eq_getElem h]; rfl)
theorem tab_ix {T : List (List Bool)} {k : Nat} (h : k < T.length) : ixD (tabD T) (.int (k : Int))=some (rowD T[k]):=y5l (by rw [List.getElem?_map,List.getElem?_eq_getElem h]; rfl)
theorem ixN_nat {n k : Nat} (h : k < n) : ixN n (k : Int)=some k:=by
  unfold ixN
  rw [if_pos (by omega),if_pos (by omega)]
  simp
/-- a square table -/
def Sq (n : Nat) (T : List (List Bool)) : Prop:=T.length=n∧∀ r∈T,r.length=n
theorem Sq.row {n : Nat} {T : List (List Bool)} (h : Sq n T) {k : Nat} (hk : k < T.length) : T[k].length=n:=h.2 _ (List.getElem_mem hk)
theorem Sq.set {n : Nat} {T : List (List Bool)} (h : Sq n T) {a b : Nat} {v : Bool} (ha : a < T.length) : Sq n (T.set a (T[a].set b v)):=by
  refine ⟨by simp [h.1],fun r hr=>?_⟩
  rcases List.mem_or_eq_of_mem_set hr with z | z
  · exact h.2 r z
  · subst z
    rw [List.length_set]
    exact h.row ha
end L2

/-! ### M3: what comes of a mirror,said by what holds behind it -/
namespace L2
open PySem
def hol {α : Type} (x : Option α) (Q : α->Prop) : Prop:=∃ a,x=some a∧Q a
section
variable {α β : Type} {Q : α->Prop} {R : β->Prop}
theorem z0i {a : α} : hol (some a) Q=Q a:=propext ⟨fun ⟨_,e,q⟩=>by cases e; exact q,fun q=>⟨a,rfl,q⟩⟩
theorem hol.imp {x : Option α} {Q' : α->Prop} (h : hol x Q) (k : ∀ a,Q a->Q' a) : hol x Q':=let ⟨a,e,q⟩:=h; ⟨a,e,k a q⟩
theorem hol_is {x : Option α} {a : α} : hol x (fun b=>b=a)↔x=some a:=⟨fun ⟨_,e,q⟩=>q ▸ e,fun e=>⟨a,e,rfl⟩⟩
end
def asB : D->Option Bool
  | .bl b=>some b
  | _=>none
def asI : D->Option Int
  | .int i=>some i
  | _=>none
def asL : D->Option (List D)
  | .lst ds=>some ds
  | _=>none
section
variable {Q : D->Prop} {QB : Bool->Prop} {QL : List D->Prop} {QO : Out->Prop} {δ : DS} {s : SS} {f g h : DE} {F : D->D->Option D}
theorem ho_var0 {x : Option D} {r : DS} : z0d 0 (x :: r)=x:=by cases x <;> rfl
/-! statements -/
def owA (i : Nat) (s : SS) : Option D:=match s[i]? with
  | some (some (.ow d))=>some d
  | _=>none
/-! what a def comes to -/
theorem z2c {np nl : Nat} {b : SS->Option Out} {ds : List D} {d : D} (hl : ds.length=np) (h : hol (b (ds.map (fun d=>some (.sh d)) ++ List.replicate nl none)) fun o=>o = .rt d) : z2L np nl b ds=some d:=y2V hl (hol_is.mp h)
theorem z8S {np nl : Nat} {b : SS->Option Out} {ds : List D} (hl : ds.length=np) (h : hol (b (ds.map (fun d=>some (.sh d)) ++ List.replicate nl none)) fun o=>∃ d,o = .rt d∧Q d) : hol (z2L np nl b ds) Q:=by
  obtain ⟨o,e,d,rfl,q⟩:=h
  exact ⟨d,y2V hl e,q⟩
/-! loops -/
theorem y2I {i : Nat} {b : SS->Option Out} {ds : List D} {s : SS} (I : Nat->SS->Prop) (h0 : I 0 s) (hs : ∀ n (h : n < ds.length) δ,I n δ->hol (b (δ.set i (some (.sh ds[n])))) fun o=>match o with | .nx δ'=>I (n + 1) δ' | .ct δ'=>I (n + 1) δ' | .bk δ'=>QO (.nx δ') | .rt d=>QO (.rt d) | .ex c δ'=>QO (.ex c δ')) (he : ∀ δ,I ds.length δ->QO (.nx δ)) : hol (z3R i b ds s) QO:=by
  induction ds generalizing s I with
  | nil=>exact ⟨_,rfl,he _ h0⟩
  | cons x r ih=>
    obtain ⟨o,e,q⟩:=hs 0 (by simp) s h0
    have e : b (s.set i (some (.sh x)))=some o:=e
    have step : ∀ s1,I 1 s1->hol (z3R i b r s1) QO:=fun s1 h1=>ih (fun n=>I (n + 1)) h1 (fun n hn δ hI=>by
      have:=hs (n + 1) (by simpa using hn) δ hI
      simpa using this) fun δ hI=>he δ (by simpa using hI)
    unfold z3R
    rw [e]
    cases o with
    | nx s1=>exact step s1 q
    | ct s1=>exact step s1 q
    | bk s1=>exact ⟨_,rfl,q⟩
    | rt d=>exact ⟨_,rfl,q⟩
    | ex c s1=>exact ⟨_,rfl,q⟩
theorem for_rng {i : Nat} {b : SS->Option Out} {lo : Int} {m : Nat} {s : SS} (I : Nat->SS->Prop) (h0 : I 0 s) (hs : ∀ n,n < m->∀ δ,I n δ->hol (b (δ.set i (some (.sh (.int (lo + (n : Int))))))) fun o=>match o with | .nx δ'=>I (n + 1) δ' | .ct δ'=>I (n + 1) δ' | .bk δ'=>QO (.nx δ') | .rt d=>QO (.rt d) | .ex c δ'=>QO (.ex c δ')) (he : ∀ δ,I m δ->QO (.nx δ)) : hol (z3R i b (z3L lo m) s) QO:=by
  refine y2I I h0 (fun n hn δ hI=>?_) fun δ hI=>he δ (by simpa [z3L] using hI)
  have hn' : n < m:=by simpa [z3L] using hn
  have:=hs n hn' δ hI
  simpa [z3L] using this
theorem z5g {α : Type} {enc : α->D} {i : Nat} {b : SS->Option Out} {xs : List α} {s : SS} (I : List α->SS->Prop) (h0 : I [] s) (hs : ∀ pre x post,xs=pre ++ x :: post->∀ δ,I pre δ->hol (b (δ.set i (some (.sh (enc x))))) fun o=>match o with | .nx δ'=>I (pre ++ [x]) δ' | .ct δ'=>I (pre ++ [x]) δ' | .bk δ'=>QO (.nx δ') | .rt d=>QO (.rt d) | .ex c δ'=>QO (.ex c δ')) (he : ∀ δ,I xs δ->QO (.nx δ)) : hol (z3R i b (xs.map enc) s) QO:=by
  refine y2I (fun n δ=>I (xs.take n) δ) (by simpa using h0) (fun n hn δ hI=>?_) fun δ hI=>he δ (by simpa using hI)
  have hn' : n < xs.length:=by simpa using hn
  have e : xs=xs.take n ++ xs[n] :: xs.drop (n + 1):=by
    rw [← List.drop_eq_getElem_cons hn',List.take_append_drop]
  have:=hs (xs.take n) xs[n] _ e δ hI
  rw [← List.take_succ_eq_append_getElem hn'] at this
  rw [List.getElem_map]
  exact this
end
end L2

/-! ### M4: mirrors reckoned out,term by term -/
namespace L2
open PySem
def o2 (F : D->D->Option D) : Option D->Option D->Option D
  | some x,some y=>F x y
  | _,_=>none
def andO : Option D->Option D->Option D
  | some (.bl true),y=>y
  | some (.bl false),_=>some (.bl false)
  | _,_=>none
def orO : Option D->Option D->Option D
  | some (.bl true),_=>some (.bl true)
  | some (.bl false),y=>y
  | _,_=>none
def andT : Option Bool->Option Bool->Option Bool
  | some true,y=>y
  | some false,_=>some false
  | _,_=>none
def orT : Option Bool->Option Bool->Option Bool
  | some true,_=>some true
  | some false,y=>y
  | _,_=>none
def iteO {α : Type} : Option Bool->Option α->Option α->Option α
  | some true,x,_=>x
  | some false,_,y=>y
  | _,_,_=>none
def y0N : Option D->Option (List D)->Option (List D)
  | some x,some xs=>some (x :: xs)
  | _,_=>none
def z7o : Option D->Option D
  | some d=>if d.imm=true then some d else none
  | none=>none
def z4r : Option (List D)->Option (List D)
  | some ds=>if z1l ds=true then some ds else none
  | none=>none
def z5p (x : Option Out) (b : SS->Option Out) : Option Out:=match x with
  | some (.nx s)=>b s
  | o=>o
def rng1 : Option D->Option (List D)
  | some (.int j)=>if -(2 ^ 62)≤j∧j < 2 ^ 62 then some (z3L 0 j.toNat) else none
  | _=>none
def rng2 : Option D->Option D->Option (List D)
  | some (.int i),some (.int j)=>if -(2 ^ 62)≤i∧i < 2 ^ 62∧-(2 ^ 62)≤j∧j < 2 ^ 62 then some (z3L i (j - i).toNat) else none
  | _,_=>none
def y4q (x : Option D) (lo hi : Option (Option Int)) : Option (List D):=match x,lo,hi with
  | some (.lst ds),some l,some h=>some (z3s ds l h)
  | some (.scr ns),some l,some h=>some (z3s (ns.map .int) l h)
  | _,_,_=>none
def partO : Option D->Option (Option Int)
  | some (.int i)=>some (some i)
  | _=>none
def setO (mk : D->SD) (i : Nat) (x : Option D) (s : SS) : Option Out:=match x with
  | some d=>some (.nx (s.set i (some (mk d))))
  | none=>none
def rtO : Option D->Option Out
  | some d=>some (.rt d)
  | none=>none
def forX (i : Nat) (ds : Option (List D)) (b : SS->Option Out) (s : SS) : Option Out:=match ds with
  | some ds=>z3R i b ds s
  | none=>none
def z3g (i : Nat) (x : Option D) (s : SS) : Option Out:=match x with
  | some d=>some (.nx ((z0x i s).set i (some (.ow d))))
  | none=>none
def z5U (fc : DS->Option Bool) (fe : DE) (δ : DS) : D->Option (Option D):=fun x=>(fc (δ ++ [some x])).bind fun k=>if k=true then (fe (δ ++ [some x])).map some else some none
def z5P (xs : Option (List D)) (h : D->Option (Option D)) : Option (List D):=match xs with
  | some xs=>if xs.length≤sizeLine then z2g h xs else none
  | none=>none
section
variable {f g h : DE} {δ : DS} {s : SS} {F : D->D->Option D} {c e : DS->Option Bool} {a b : SS->Option Out} {i j : Nat}
theorem y3F {x : Option D} {r : DS} : z0d 0 (x :: r)=x:=ho_var0
theorem y1C {x : Option D} {r : DS} : z0d (i + 1) (x :: r)=z0d i r:=(rfl)
theorem ev_C {d : D} : dC d δ=some d:=(rfl)
theorem ev_d2 : d2 F f g δ=o2 F (f δ) (g δ):=by
  unfold d2 o2
  cases f δ <;> cases g δ <;> rfl
theorem ev_d1 {G : D->Option D} : d1 G f δ=(f δ).bind G:=(rfl)
theorem y2E : z0P f δ=(f δ).bind asB:=by
  unfold z0P
  cases f δ with
  | none=>rfl
  | some d=>cases d <;> rfl
theorem z9H : z1T f δ=(f δ).bind z5A:=(rfl)
theorem y3L : y1k c e δ=andT (c δ) (e δ):=by
  unfold y1k
  rcases c δ with _ | _ | _ <;> rfl
theorem y7s : y1m c e δ=orT (c δ) (e δ):=by
  unfold y1m
  rcases c δ with _ | _ | _ <;> rfl
theorem y2Y : z3K c δ=(c δ).map (!·):=(rfl)
theorem y7D : y7d f g δ=andO (f δ) (g δ):=by
  unfold y7d andO
  rcases f δ with _ | (_ | (_ | _) | _ | _ | _ | _ | _ | _) <;> rfl
theorem ev_or : dOr f g δ=orO (f δ) (g δ):=by
  unfold dOr orO
  rcases f δ with _ | (_ | (_ | _) | _ | _ | _ | _ | _ | _) <;> rfl
theorem ev_if : dIf c f g δ=iteO (c δ) (f δ) (g δ):=by
  unfold dIf
  rcases c δ with _ | _ | _ <;> rfl
theorem y0s : z0j [] δ=some []:=(rfl)
theorem z9C {r : List DE} : z0j (f :: r) δ=y0N (f δ) (z0j r δ):=by
  show ((f δ).bind fun x=>(z0j r δ).bind fun xs=>some (x :: xs))=_
  cases f δ <;> cases z0j r δ <;> rfl
theorem y3u {M : List D->Option D} {fl : List DE} : z0k M fl δ=(z0j fl δ).bind M:=(rfl)
theorem y0z {M : List D->Option (List D)} {fl : List DE} : z2N M fl δ=(z0j fl δ).bind M:=(rfl)
theorem y8g {f : DS->Option (List D)} : mkL f δ=(f δ).map .lst:=(rfl)
theorem y8C {f : DS->Option (List D)} : mkT f δ=(f δ).map .tup:=(rfl)
theorem z7I {f : DS->Option (List D)} : z0D f δ=(z4r (f δ)).map .lst:=by
  unfold z0D z4r
  cases f δ with
  | none=>rfl
  | some ds=>
    show (if z1l ds=true then _ else _)=Option.map _ (if z1l ds=true then _ else _)
    split <;> rfl
theorem z9E : mkImm f δ=z7o (f δ):=by
  unfold mkImm z7o
  cases f δ <;> rfl
theorem ev_is {T : String} : dIs T f δ=(f δ).map fun d=>.bl (isF T d):=(rfl)
theorem y7g : z4G f δ=(f δ).bind y1r:=(rfl)
theorem y3N : z5N f δ=rng1 (f δ):=(rfl)
theorem y3k : y6g f g δ=rng2 (f δ) (g δ):=(rfl)
theorem y3j {fi : DS->Option (List D)} : z1X fi c f δ=z5P (fi δ) (z5U c f δ):=by
  unfold z1X z5P
  cases fi δ <;> rfl
theorem y1A : z3t f δ=partO (f δ):=(rfl)
theorem z7T : z2e δ=some none:=(rfl)
theorem y7r {fl fh : DS->Option (Option Int)} : y1o f fl fh δ=y4q (f δ) (fl δ) (fh δ):=by
  unfold y1o y4q
  rcases f δ with _ | (_ | _ | _ | _ | _ | _ | _ | _) <;> first | rfl | (cases fl δ <;> cases fh δ <;> rfl)
theorem z8H : z0W a b s=z5p (a s) b:=by
  unfold z0W z5p
  rcases a s with _ | (_ | _ | _ | _) <;> rfl
theorem y2W : z1Y s=some (.nx s):=(rfl)
theorem ev_bk : bkO s=some (.bk s):=(rfl)
theorem ev_ct : ctO s=some (.ct s):=(rfl)
theorem y3B : y6Z i f s=setO .sh i (f (shV s)) s:=by
  unfold y6Z setO
  cases f (shV s) <;> rfl
theorem y5t : z3J i f s=setO .sh i (z7o (f (z0o s))) s:=by
  unfold z3J setO z7o
  cases f (z0o s) with
  | none=>rfl
  | some d=>
    show (if d.imm=true then _ else _)=(match (if d.imm=true then some d else none) with | some d=>some (Out.nx (s.set i (some (SD.sh d)))) | none=>none)
    split <;> rfl
theorem y4W : z4l i f s=setO .ow i (f (z0o s)) s:=by
  unfold z4l setO
  cases f (z0o s) <;> rfl
theorem y3f : z3d f s=rtO (z7o (f (z0o s))):=by
  unfold z3d rtO z7o
  cases f (z0o s) with
  | none=>rfl
  | some d=>
    show (if d.imm=true then _ else _)=(match (if d.imm=true then some d else none) with | some d=>some (Out.rt d) | none=>none)
    split <;> rfl
theorem y1R : y8i f s=rtO (f (z0o s)):=by
  unfold y8i rtO
  cases f (z0o s) <;> rfl
theorem y3A : retS f s=rtO (f (shV s)):=by
  unfold retS rtO
  cases f (shV s) <;> rfl
theorem y2A : y5y i s=rtO (owA i s):=by
  unfold y5y rtO owA
  rcases s[i]? with _ | _ | ⟨x | x | ⟨r,x⟩⟩ <;> rfl
theorem y2h : ifO c a b s=iteO (c (z0o s)) (a s) (b s):=by
  unfold ifO
  rcases c (z0o s) with _ | _ | _ <;> rfl
theorem y3s {fi : DS->Option (List D)} : z8w i fi b s=forX i (fi (shV s)) b s:=by
  unfold z8w forX
  cases fi (shV s) <;> rfl
theorem y7M : frzO i b s=b (y6i i s):=(rfl)
/-! how they go on when the parts are there -/
theorem eo_2 {x y : D} : o2 F (some x) (some y)=F x y:=(rfl)
theorem y8j {x y : Bool} : andO (some (.bl x)) (some (.bl y))=some (.bl (x && y)):=by cases x <;> rfl
theorem y4l {y : Option D} : andO (some (.bl true)) y=y:=(rfl)
theorem y4f {y : Option D} : andO (some (.bl false)) y=some (.bl false):=(rfl)
theorem eo_or {x y : Bool} : orO (some (.bl x)) (some (.bl y))=some (.bl (x || y)):=by cases x <;> rfl
theorem y7v {y : Option D} : orO (some (.bl true)) y=some (.bl true):=(rfl)
theorem y8X {y : Option D} : orO (some (.bl false)) y=y:=(rfl)
theorem y5u {x y : Bool} : andT (some x) (some y)=some (x && y):=by cases x <;> rfl
theorem y0i {y : Option Bool} : andT (some true) y=y:=(rfl)
theorem z9R {y : Option Bool} : andT (some false) y=some false:=(rfl)
theorem y8I {x y : Bool} : orT (some x) (some y)=some (x || y):=by cases x <;> rfl
theorem y1B {y : Option Bool} : orT (some true) y=some true:=(rfl)
theorem y3C {y : Option Bool} : orT (some false) y=y:=(rfl)
theorem z8B {α : Type} {x y : Option α} : iteO (some true) x y=x:=(rfl)
theorem z8M {α : Type} {x y : Option α} : iteO (some false) x y=y:=(rfl)
theorem y4L {x : D} {xs : List D} : y0N (some x) (some xs)=some (x :: xs):=(rfl)
theorem eo_nx : z5p (some (.nx s)) b=b s:=(rfl)
theorem eo_rt {d : D} : z5p (some (.rt d)) b=some (.rt d):=(rfl)
theorem eo_bk : z5p (some (.bk s)) b=some (.bk s):=(rfl)
theorem eo_ct : z5p (some (.ct s)) b=some (.ct s):=(rfl)
theorem y8l {mk : D->SD} {d : D} : setO mk i (some d) s=some (.nx (s.set i (some (mk d)))):=(rfl)
theorem y8L {d : D} : rtO (some d)=some (.rt d):=(rfl)
theorem y8W {ds : List D} : forX i (some ds) b s=z3R i b ds s:=(rfl)
theorem y4b {n : Int} : z7o (some (.int n))=some (.int n):=(rfl)
theorem y4Y {n : Bool} : z7o (some (.bl n))=some (.bl n):=(rfl)
theorem y3l : z7o (some .non)=some .non:=(rfl)
theorem y4i {x : Str} : z7o (some (.str x))=some (.str x):=(rfl)
theorem y5p {ns : List Int} : z7o (some (.scr ns))=some (.scr ns):=(rfl)
theorem eo_imm {d : D} (h : d.imm=true) : z7o (some d)=some d:=if_pos h
theorem z5C {ds : List D} (h : z1l ds=true) : z4r (some ds)=some ds:=if_pos h
theorem y3i {n : Int} : partO (some (.int n))=some (some n):=(rfl)
theorem y3T {ds : List D} {l h : Option Int} : y4q (some (.lst ds)) (some l) (some h)=some (z3s ds l h):=(rfl)
theorem y2X {ns : List Int} {l h : Option Int} : y4q (some (.scr ns)) (some l) (some h)=some (z3s (ns.map .int) l h):=(rfl)
theorem eo_rng1 {n : Int} (h : -(2 ^ 62)≤n∧n < 2 ^ 62) : rng1 (some (.int n))=some (z3L 0 n.toNat):=if_pos h
theorem eo_rng2 {m n : Int} (h : -(2 ^ 62)≤m∧m < 2 ^ 62∧-(2 ^ 62)≤n∧n < 2 ^ 62) : rng2 (some (.int m)) (some (.int n))=some (z3L m (n - m).toNat):=if_pos h
theorem z9a {xs : List D} {k : D->Option (Option D)} (h : xs.length≤1000000) : z5P (some xs) k=z2g k xs:=if_pos (z3r h)
/-! values -/
section
variable {m n : Int} {p q : Bool} {ds es : List D} {x y : Str} {ns : List Int}
theorem y8c : z6j (.int m) (.int n)=some (.int (m + n)):=(rfl)
theorem y8K : y5w (.int m) (.int n)=some (.int (m - n)):=(rfl)
theorem z7r (h : CDiv m n) : z9M (.int m) (.int n)=some (.int (m / n)):=if_pos h
theorem z3y (h : 0 < n) : z4H (.int m) (.int n)=some (.int (m % n)):=if_pos h
theorem ea_pow (h : CPow m n) : powI (.int m) (.int n)=some (.int (m ^ n.toNat)):=if_pos h
theorem ea_lt : ltI (.int m) (.int n)=some (.bl (decide (m < n))):=(rfl)
theorem ea_le : leI (.int m) (.int n)=some (.bl (decide (m≤n))):=(rfl)
theorem ea_gt : gtI (.int m) (.int n)=some (.bl (decide (n < m))):=(rfl)
theorem ea_ge : geI (.int m) (.int n)=some (.bl (decide (n≤m))):=(rfl)
theorem y8h : eqD (.int m) (.int n)=some (.bl (decide (m=n))):=(rfl)
theorem y7j : neD (.int m) (.int n)=some (.bl (!decide (m=n))):=(rfl)
theorem y8O : eqD (.bl p) (.bl q)=some (.bl (p == q)):=(rfl)
theorem y8N : neD (.bl p) (.bl q)=some (.bl (!(p == q))):=(rfl)
theorem y7u : uNeg (.int m)=some (.int (-m)):=(rfl)
theorem y8S : uNot (.bl p)=some (.bl (!p)):=(rfl)
theorem y3P : z5A (.bl p)=some p:=(rfl)
theorem y4d : z5A (.int m)=some (m != 0):=(rfl)
theorem y3e : z5A (.lst ds)=some (!ds.isEmpty):=(rfl)
theorem y1Q : z5A .non=some false:=(rfl)
theorem y4V : y1r (.lst ds)=some ds:=(rfl)
theorem y4K : y1r (.tup ds)=some ds:=(rfl)
theorem y4H : y1r (.scr ns)=some (ns.map .int):=(rfl)
theorem y3I : z3E [.lst ds]=some (.int (ds.length : Int)):=(rfl)
theorem y4j : z3E [.tup ds]=some (.int (ds.length : Int)):=(rfl)
theorem y3H : z3E [.scr ns]=some (.int (ns.length : Int)):=(rfl)
theorem z9F : z4A [.lst ds]=some ds:=(rfl)
theorem y0k : z4A [.tup ds]=some ds:=(rfl)
theorem y0H : z4A [.scr ns]=some (ns.map .int):=(rfl)
theorem y1w : y1P [.lst ds]=some (.tup ds):=(rfl)
theorem y3n : y1P [.tup ds]=some (.tup ds):=(rfl)
theorem y7R : ixD (.lst ds) (.int m)=atI ds m:=(rfl)
theorem y7K : ixD (.tup ds) (.int m)=atI ds m:=(rfl)
theorem y8o : ixD (.scr ns) (.int m)=(atI ns m).map .int:=(rfl)
theorem y3U : isF "bool" (.bl p)=true:=(rfl)
theorem y2H : isF "bool" (.int m)=false:=(rfl)
theorem y2g : isF "int" (.int m)=true:=(rfl)
theorem y2l : isF "int" (.bl p)=true:=(rfl)
theorem y4I : isF "list" (.lst ds)=true:=(rfl)
theorem y5r : isF "list" (.tup ds)=false:=(rfl)
theorem y4S : isF "tuple" (.tup ds)=true:=(rfl)
theorem y3p : isF "list" .non=false:=(rfl)
theorem y7m : asB (.bl p)=some p:=(rfl)
theorem y7U : asI (.int m)=some m:=(rfl)
theorem y7C : asL (.lst ds)=some ds:=(rfl)
end
theorem eb_bs {α β : Type} {a : α} {k : α->Option β} : (some a).bind k=k a:=(rfl)
theorem eb_bn {α β : Type} {k : α->Option β} : (none : Option α).bind k=none:=(rfl)
theorem eb_ms {α β : Type} {a : α} {k : α->β} : (some a).map k=some (k a):=(rfl)
theorem eb_mn {α β : Type} {k : α->β} : (none : Option α).map k=none:=(rfl)
theorem eb_s0 {α : Type} {x y : α} {r : List α} : (x :: r).set 0 y=y :: r:=(rfl)
theorem eb_sS {α : Type} {n : Nat} {x y : α} {r : List α} : (x :: r).set (n + 1) y=x :: r.set n y:=(rfl)
theorem eb_mc {α β : Type} {x : α} {r : List α} {k : α->β} : (x :: r).map k=k x :: r.map k:=(rfl)
theorem y3d {α β : Type} {k : α->β} : ([] : List α).map k=[]:=(rfl)
theorem eb_rS {α : Type} {n : Nat} {x : α} : List.replicate (n + 1) x=x :: List.replicate n x:=(rfl)
theorem eb_r0 {α : Type} {x : α} : List.replicate 0 x=[]:=(rfl)
theorem eb_ca {α : Type} {x : α} {r t : List α} : (x :: r) ++ t=x :: (r ++ t):=(rfl)
theorem eb_na {α : Type} {t : List α} : [] ++ t=t:=(rfl)
/-! states -/
theorem y2s : z0o []=[]:=(rfl)
theorem y4u {x : Option SD} {r : SS} : z0o (x :: r)=x.map SD.val :: z0o r:=(rfl)
theorem y7l : shV []=[]:=(rfl)
theorem y7o {x : Option SD} {r : SS} : shV (x :: r)=shO x :: shV r:=(rfl)
theorem y2t {d : D} : Option.map SD.val (some (.sh d))=some d:=(rfl)
theorem y4y {d : D} : Option.map SD.val (some (.ow d))=some d:=(rfl)
theorem y2p : Option.map SD.val none=none:=(rfl)
theorem y7E {d : D} : shO (some (.sh d))=some d:=(rfl)
theorem z9Z : z0x i []=[]:=(rfl)
theorem z9v {x : Option SD} {r : SS} : z0x i (x :: r)=z8g i x :: z0x i r:=(rfl)
theorem z8h {d : D} : z8g i (some (.sh d))=some (.sh d):=(rfl)
theorem z8j {d : D} : z8g i (some (.ow d))=some (.ow d):=(rfl)
theorem y0j : z8g i none=none:=(rfl)
theorem y7H {d : D} {r : SS} : owA 0 (some (.ow d) :: r)=some d:=(rfl)
theorem y8H {x : Option SD} {r : SS} : owA (i + 1) (x :: r)=owA i r:=(rfl)
end
end L2

/-! ### M5: changes of owned lists; comprehensions -/
namespace L2
open PySem
def z6I : Option (List D)->Option (List D):=z4r
def st0V (o k v : Option D) : Option D:=match o,k,v with
  | some (.lst ds),some (.int k),some d=>(ixN ds.length k).map fun j=>.lst (ds.set j d)
  | _,_,_=>none
def st1V (o k j v : Option D) : Option D:=match o,k,j,v with
  | some (.lst ds),some (.int k),some (.int j),some d=>(ixN ds.length k).bind fun k'=>(match ds[k']? with
    | some (.lst es)=>if z1l es=true then (ixN es.length j).map fun j'=>.lst (ds.set k' (.lst (es.set j' d))) else none
    | _=>none)
  | _,_,_,_=>none
def m0V (M : List D->List D->Option (List D)) (o : Option D) (args : Option (List D)) : Option D:=match o,args with
  | some (.lst ds),some args=>(M ds args).map .lst
  | _,_=>none
def m1V (M : List D->List D->Option (List D)) (o k : Option D) (args : Option (List D)) : Option D:=match o,k,args with
  | some (.lst ds),some (.int k),some args=>(ixN ds.length k).bind fun j=>(match ds[j]? with
    | some (.lst es)=>if z1l es=true then (z4r (M es args)).map fun es'=>.lst (ds.set j (.lst es')) else none
    | _=>none)
  | _,_,_=>none
def mMV (M : List D->Option D) (o : Option D) (args : Option (List D)) : Option D:=match o,args with
  | some d0,some args=>M (d0 :: args)
  | _,_=>none
section
variable {f g fk fj fv : DE} {s : SS} {i : Nat} {M : List D->List D->Option (List D)} {fl : List DE}
theorem y8m {d : D} : z3g i (some d) s=some (.nx ((z0x i s).set i (some (.ow d)))):=(rfl)
theorem z9A {ds : List D} (h : z1l ds=true) : z6I (some ds)=some ds:=if_pos h
/-- what is an int,what is a list that is owned -/
def kI : D->Option Int
  | .int k=>some k
  | _=>none
def kL : D->Option (List D)
  | .lst ds=>some ds
  | _=>none
def kW : Option (Option SD)->Option D
  | some (some (.ow d))=>some d
  | _=>none
theorem y8B : owA i s=kW s[i]?:=by
  unfold owA kW
  generalize s[i]? = x
  rcases x with _ | _ | ⟨x | x | ⟨r,x⟩⟩ <;> rfl
theorem mt2 {β : Type} {k : D} {x : Option (Option SD)} {F : Int->List D->Option β} : (match k,x with | .int k,some (some (.ow (.lst ds)))=>F k ds | _,_=>none)=(kI k).bind fun k=>((kW x).bind kL).bind fun ds=>F k ds:=by
  cases k with
  | int k=>rcases x with _ | _ | ⟨x | x | ⟨r,x⟩⟩ <;> first | rfl | (cases x <;> rfl)
  | _=>rfl
theorem mt3 {β : Type} {k j : D} {x : Option (Option SD)} {F : Int->Int->List D->Option β} : (match k,j,x with | .int k,.int j,some (some (.ow (.lst ds)))=>F k j ds | _,_,_=>none)=(kI k).bind fun k=>(kI j).bind fun j=>((kW x).bind kL).bind fun ds=>F k j ds:=by
  cases k with
  | int k=>
    cases j with
    | int j=>rcases x with _ | _ | ⟨x | x | ⟨r,x⟩⟩ <;> first | rfl | (cases x <;> rfl)
    | _=>rfl
  | _=>rfl
theorem st0V_k {o k v : Option D} : st0V o k v=(o.bind kL).bind fun ds=>(k.bind kI).bind fun k=>v.bind fun d=>(ixN ds.length k).map fun j=>.lst (ds.set j d):=by
  rcases o with _ | o
  · rfl
  · cases o with
    | lst ds=>
      rcases k with _ | k
      · rfl
      · cases k with
        | int k=>cases v <;> rfl
        | _=>rfl
    | _=>rfl
theorem y8A {o k j v : Option D} : st1V o k j v=(o.bind kL).bind fun ds=>(k.bind kI).bind fun k=>(j.bind kI).bind fun j=>v.bind fun d=>(ixN ds.length k).bind fun k'=>(match ds[k']? with
    | some (.lst es)=>if z1l es=true then (ixN es.length j).map fun j'=>.lst (ds.set k' (.lst (es.set j' d))) else none
    | _=>none):=by
  rcases o with _ | o
  · rfl
  · cases o with
    | lst ds=>
      rcases k with _ | k
      · rfl
      · cases k with
        | int k=>
          rcases j with _ | j
          · rfl
          · cases j with
            | int j=>cases v <;> rfl
            | _=>rfl
        | _=>rfl
    | _=>rfl
theorem y4t {α : Type} {x : Option α} {F : α->Option D} : z3g i (x.bind F) s=x.bind fun a=>z3g i (F a) s:=by cases x <;> rfl
theorem z2q {α β : Type} {x : Option α} : (x.bind fun _=>(none : Option β))=none:=by cases x <;> rfl
theorem y7Z : st0 i fk fv s=z3g i (st0V (owA i s) (fk (z0o s)) (z7o (fv (z0o s)))) s:=by
  have e : st0 i fk fv s=(fv (z0o s)).bind fun d=>if d.imm=true then (fk (z0o s)).bind fun dk=>(kI dk).bind fun k=>((kW s[i]?).bind kL).bind fun ds=>(ixN ds.length k).map fun j=>.nx ((z0x i s).set i (some (.ow (.lst (ds.set j d))))) else none:=by
    refine congrArg (Option.bind (fv (z0o s))) (funext fun d=>?_)
    refine congrArg (fun z=>if d.imm=true then z else none) ?_
    refine congrArg (Option.bind (fk (z0o s))) (funext fun dk=>?_)
    exact mt2 (F:=fun k ds=>(ixN ds.length k).map fun j=>Out.nx ((z0x i s).set i (some (.ow (.lst (ds.set j d))))))
  rw [e,st0V_k,y8B]
  simp only [y4t]
  generalize (kW s[i]?).bind kL=x
  rcases fv (z0o s) with _ | d
  · show none=x.bind fun ds=>((fk (z0o s)).bind kI).bind fun k=>(none : Option Out)
    simp only [z2q]
  · show (if d.imm=true then (fk (z0o s)).bind fun dk=>_ else none)=x.bind fun ds=>((fk (z0o s)).bind kI).bind fun k=>(if d.imm=true then some d else none).bind fun d=>_
    split
    · rcases fk (z0o s) with _ | k
      · simp only [Option.bind_none,z2q]
      · simp only [Option.bind_some]
        cases kI k with
        | none=>simp only [Option.bind_none,z2q]
        | some k=>
          simp only [Option.bind_some]
          cases x with
          | none=>rfl
          | some ds=>
            simp only [Option.bind_some]
            cases ixN ds.length k <;> rfl
    · simp only [Option.bind_none,z2q]
theorem m_st1 {k j : Int} {d : D} {ds : List D} : ((ixN ds.length k).bind fun k'=>(match ds[k']? with
      | some (.lst es)=>if z1l es=true then (ixN es.length j).map fun j'=>Out.nx ((z0x i s).set i (some (.ow (.lst (ds.set k' (.lst (es.set j' d))))))) else none
      | _=>none))=z3g i (st1V (some (.lst ds)) (some (.int k)) (some (.int j)) (some d)) s:=by
  show _=z3g i ((ixN ds.length k).bind _) s
  cases ixN ds.length k with
  | none=>rfl
  | some k'=>
    rw [Option.bind_some,Option.bind_some]
    cases ds[k']? with
    | none=>rfl
    | some y=>
      cases y with
      | lst es=>
        dsimp only
        split
        · cases ixN es.length j <;> rfl
        · rfl
      | _=>rfl
theorem y7q : st1 i fk fj fv s=z3g i (st1V (owA i s) (fk (z0o s)) (fj (z0o s)) (z7o (fv (z0o s)))) s:=by
  have e : st1 i fk fj fv s=(fv (z0o s)).bind fun d=>if d.imm=true then (fk (z0o s)).bind fun dk=>(fj (z0o s)).bind fun dj=>(kI dk).bind fun k=>(kI dj).bind fun j=>((kW s[i]?).bind kL).bind fun ds=>(ixN ds.length k).bind fun k'=>(match ds[k']? with
      | some (.lst es)=>if z1l es=true then (ixN es.length j).map fun j'=>.nx ((z0x i s).set i (some (.ow (.lst (ds.set k' (.lst (es.set j' d))))))) else none
      | _=>none) else none:=by
    refine congrArg (Option.bind (fv (z0o s))) (funext fun d=>?_)
    refine congrArg (fun z=>if d.imm=true then z else none) ?_
    refine congrArg (Option.bind (fk (z0o s))) (funext fun dk=>?_)
    refine congrArg (Option.bind (fj (z0o s))) (funext fun dj=>?_)
    exact mt3 (F:=fun k j ds=>(ixN ds.length k).bind fun k'=>(match ds[k']? with
      | some (.lst es)=>if z1l es=true then (ixN es.length j).map fun j'=>Out.nx ((z0x i s).set i (some (.ow (.lst (ds.set k' (.lst (es.set j' d))))))) else none
      | _=>none))
  rw [e,y8A,y8B]
  simp only [y4t]
  generalize (kW s[i]?).bind kL=x
  rcases fv (z0o s) with _ | d
  · show none=x.bind fun ds=>((fk (z0o s)).bind kI).bind fun k=>((fj (z0o s)).bind kI).bind fun j=>(none : Option Out)
    simp only [z2q]
  · show (if d.imm=true then (fk (z0o s)).bind fun dk=>_ else none)=x.bind fun ds=>((fk (z0o s)).bind kI).bind fun k=>((fj (z0o s)).bind kI).bind fun j=>(if d.imm=true then some d else none).bind fun d=>_
    split
    · rcases fk (z0o s) with _ | k
      · simp only [Option.bind_none,z2q]
      · simp only [Option.bind_some]
        rcases fj (z0o s) with _ | j
        · simp only [Option.bind_none,z2q]
        · simp only [Option.bind_some]
          cases kI k with
          | none=>simp only [Option.bind_none,z2q]
          | some k=>
            cases kI j with
            | none=>simp only [Option.bind_none,Option.bind_some,z2q]
            | some j=>
              simp only [Option.bind_some]
              cases x with
              | none=>rfl
              | some ds=>
                have:=m_st1 (i:=i) (s:=s) (k:=k) (j:=j) (d:=d) (ds:=ds)
                rw [y8A] at this
                simp only [Option.bind_some,y4t,kL,kI] at this
                simp only [Option.bind_some]
                exact this
    · simp only [Option.bind_none,z2q]
theorem ev_m0 : m0 i M fl s=z3g i (m0V M (owA i s) (z6I (z0j fl (z0o s)))) s:=by
  unfold m0 owA
  rcases z0j fl (z0o s) with _ | args
  · rcases s[i]? with _ | _ | ⟨x | x | ⟨r,x⟩⟩ <;> (first | rfl | (cases x <;> rfl))
  · show (if z1l args=true then _ else _)=z3g i (m0V M _ (if z1l args=true then some args else none)) s
    split
    · rcases s[i]? with _ | _ | ⟨x | x | ⟨r,x⟩⟩ <;> (first | rfl | (cases x <;> first | rfl | (rename_i ds; show Option.map _ (M ds args)=z3g i (Option.map _ (M ds args)) s; cases M ds args <;> rfl)))
    · rcases s[i]? with _ | _ | ⟨x | x | ⟨r,x⟩⟩ <;> (first | rfl | (cases x <;> rfl))
theorem m_m1 {k : Int} {ds args : List D} : ((ixN ds.length k).bind fun j=>(match ds[j]? with
      | some (.lst es)=>if z1l es=true then (M es args).bind fun es'=>if z1l es'=true then some (Out.nx ((z0x i s).set i (some (.ow (.lst (ds.set j (.lst es'))))))) else none else none
      | _=>none))=z3g i (m1V M (some (.lst ds)) (some (.int k)) (some args)) s:=by
  show _=z3g i ((ixN ds.length k).bind _) s
  cases ixN ds.length k with
  | none=>rfl
  | some k'=>
    rw [Option.bind_some,Option.bind_some]
    cases ds[k']? with
    | none=>rfl
    | some y=>
      cases y with
      | lst es=>
        dsimp only
        split
        · cases M es args with
          | none=>rfl
          | some es'=>
            show (if z1l es'=true then _ else _)=z3g i (Option.map _ (if z1l es'=true then _ else _)) s
            split <;> rfl
        · rfl
      | _=>rfl
theorem ev_m1 : m1 i fk M fl s=z3g i (m1V M (owA i s) (fk (z0o s)) (z6I (z0j fl (z0o s)))) s:=by
  unfold m1 owA
  rcases z0j fl (z0o s) with _ | args
  · rcases fk (z0o s) with _ | (_ | _ | _ | _ | _ | _ | _ | _) <;> rcases s[i]? with _ | _ | ⟨x | x | ⟨r,x⟩⟩ <;> (first | rfl | (cases x <;> rfl))
  · show _=z3g i (m1V M _ _ (if z1l args=true then some args else none)) s
    by_cases h : z1l args=true
    · rw [if_pos h]
      rcases fk (z0o s) with _ | (_ | _ | k | _ | _ | _ | _ | _) <;> rcases s[i]? with _ | _ | ⟨x | x | ⟨r,x⟩⟩ <;> (first | rfl | (cases x <;> first | rfl | exact (if_pos h).trans m_m1 | exact if_pos h) | exact if_pos h)
    · rw [if_neg h]
      rcases fk (z0o s) with _ | (_ | _ | k | _ | _ | _ | _ | _) <;> rcases s[i]? with _ | _ | ⟨x | x | ⟨r,x⟩⟩ <;> (first | rfl | (cases x <;> first | rfl | exact if_neg h) | exact if_neg h)
theorem y4w {M : List D->Option D} : asgM i M fl s=z3g i (mMV M (owA i s) (z6I (z0j fl (z0o s)))) s:=by
  unfold asgM owA
  rcases z0j fl (z0o s) with _ | args
  · rcases s[i]? with _ | _ | ⟨x | x | ⟨r,x⟩⟩ <;> rfl
  · show (if z1l args=true then _ else _)=z3g i (mMV M _ (if z1l args=true then some args else none)) s
    split
    · rcases s[i]? with _ | _ | ⟨x | x | ⟨r,x⟩⟩ <;> first | rfl | (show Option.map _ (M (x :: args))=z3g i (M (x :: args)) s; cases M (x :: args) <;> rfl)
    · rcases s[i]? with _ | _ | ⟨x | x | ⟨r,x⟩⟩ <;> rfl
theorem y0I : app0N i f s=z3g i (m0V z5W (owA i s) (y0N (f (z0o s)) (some []))) s:=by
  unfold app0N owA
  rcases f (z0o s) with _ | d
  · rcases s[i]? with _ | _ | ⟨x | x | ⟨r,x⟩⟩ <;> (first | rfl | (cases x <;> rfl))
  · rcases s[i]? with _ | _ | ⟨x | x | ⟨r,x⟩⟩ <;> (first | rfl | (cases x <;> first | rfl | (rename_i ds; show Option.map _ (z5W ds [d])=z3g i (Option.map _ (z5W ds [d])) s; cases z5W ds [d] <;> rfl)))
theorem y0r : ins0N i f g s=z3g i (m0V y5x (owA i s) (y0N (z7o (f (z0o s))) (y0N (g (z0o s)) (some [])))) s:=by
  unfold ins0N owA
  rcases f (z0o s) with _ | k
  · rcases s[i]? with _ | _ | ⟨x | x | ⟨r,x⟩⟩ <;> (first | rfl | (cases x <;> rfl))
  · show (if k.imm=true then _ else _)=z3g i (m0V y5x _ (y0N (if k.imm=true then some k else none) _)) s
    split
    · rcases g (z0o s) with _ | d
      · rcases s[i]? with _ | _ | ⟨x | x | ⟨r,x⟩⟩ <;> (first | rfl | (cases x <;> rfl))
      · rcases s[i]? with _ | _ | ⟨x | x | ⟨r,x⟩⟩ <;> (first | rfl | (cases x <;> first | rfl | (rename_i ds; show Option.map _ (y5x ds [k,d])=z3g i (Option.map _ (y5x ds [k,d])) s; cases y5x ds [k,d] <;> rfl)))
    · rcases s[i]? with _ | _ | ⟨x | x | ⟨r,x⟩⟩ <;> (first | rfl | (cases x <;> rfl))
end
theorem es_v1 {d : D} : (SD.sh d).val=d:=(rfl)
theorem es_v2 {d : D} : (SD.ow d).val=d:=(rfl)
theorem ea_all {bs : List Bool} : allF [.lst (bs.map bD)]=some (.bl (bs.all fun b=>b)):=by
  show (z4s (bs.map bD)).map (fun bs=>D.bl (bs.all fun b=>b))=_
  rw [z7N]
  rfl
theorem z4L : ∀ ns : List Int,z1n (ns.map D.int)=some ns
  | []=>rfl
  | n :: ns=>by
    show (z1n (ns.map D.int)).map (n :: ·)=_
    rw [z4L ns]
    rfl
theorem y3q {ns : List Int} : sumF [.lst (ns.map .int)]=some (.int ns.sum):=by
  show (z1n (ns.map D.int)).map (fun ns=>D.int ns.sum)=_
  rw [z4L]
  rfl
/-! tables -/
theorem y6l (ns : List Int) (lo hi : Option Int) : ∃ cs : List Int,z3s (ns.map .int) lo hi=cs.map .int∧cs.length≤ns.length:=by
  refine ⟨(ns.drop (HT.sIx ns.length 0 lo)).take (HT.sIx ns.length ns.length hi - HT.sIx ns.length 0 lo),?_,by simp; omega⟩
  unfold z3s
  rw [List.length_map,List.map_take,List.map_drop]
theorem pow_lit (n : Nat) (h : n≤1000) : powI (.int 10) (.int (n : Int))=some (.int (10 ^ n)):=by
  rw [ea_pow (show CPow 10 (n : Int) from ⟨by omega,by omega,by decide⟩),Int.toNat_natCast]
theorem ix_tab {T : List (List Bool)} {k : Nat} (h : k < T.length) : ixD (tabD T) (.int (k : Int))=some (rowD T[k]):=tab_ix h
theorem ix_row {r : List Bool} {k : Nat} (h : k < r.length) : ixD (rowD r) (.int (k : Int))=some (.bl r[k]):=row_ix h
theorem ins_at {n b : Nat} (h : b≤n) : y1a n (b : Int)=b:=by
  unfold y1a
  rw [if_neg (by omega),Int.toNat_natCast,Nat.min_eq_left h]
theorem z5L {x : Int} {n : Nat} (h : 0 < n) : ∃ a : Nat,x % (n : Int)=(a : Int)∧a < n:=by
  have h1:=Int.emod_nonneg x (show (n : Int)≠0 by omega)
  have h2:=Int.emod_lt_of_pos x (show (0 : Int) < n by omega)
  exact ⟨(x % (n : Int)).toNat,by omega,by omega⟩
/-! comprehensions,by what each item comes to -/
theorem z9g {α : Type} {enc : α->D} {c : DS->Option Bool} {f : DE} {δ : DS} (p : α->Bool) (g : α->D) : ∀ {xs : List α},(∀ x∈xs,c (δ ++ [some (enc x)])=some (p x))->(∀ x∈xs,p x=true->f (δ ++ [some (enc x)])=some (g x))->z2g (z5U c f δ) (xs.map enc)=some ((xs.filter p).map g)
  | [],_,_=>rfl
  | x :: r,hc,hf=>by
    have ih:=z9g (xs:=r) p g (fun y hy=>hc y (List.mem_cons_of_mem _ hy)) fun y hy=>hf y (List.mem_cons_of_mem _ hy)
    rw [List.map_cons]
    unfold z2g
    rw [ih]
    unfold z5U
    rw [hc x List.mem_cons_self]
    cases hp : p x with
    | true=>
      show ((if true=true then (f (δ ++ [some (enc x)])).map some else some none).bind _)=_
      rw [if_pos rfl,hf x List.mem_cons_self hp,List.filter_cons_of_pos hp]
      rfl
    | false=>
      rw [List.filter_cons_of_neg (by rw [hp]; exact Bool.false_ne_true)]
      rfl
theorem z6k {α : Type} {enc : α->D} {f : DE} {δ : DS} (g : α->D) {xs : List α} (hf : ∀ x∈xs,f (δ ++ [some (enc x)])=some (g x)) : z2g (z5U z8y f δ) (xs.map enc)=some (xs.map g):=by
  rw [z9g (fun _=>true) g (fun _ _=>rfl) fun x hx _=>hf x hx,List.filter_eq_self.mpr fun _ _=>rfl]
/-! ints as natural numbers; indexes -/
def nD (n : Nat) : D:=.int (n : Int)
theorem rng_nat {n : Nat} : z3L 0 n=(List.range n).map nD:=by
  unfold z3L nD
  refine List.map_congr_left fun k _=>?_
  rw [Int.zero_add]
theorem at_nat {α : Type} {xs : List α} {k : Nat} (h : k < xs.length) : atI xs (k : Int)=some xs[k]:=z0Z (List.getElem?_eq_getElem h)
end L2

/-! ### M6: ballots -/
namespace L2
open PySem
def y4M : Option (List D)->Option (List D)
  | some ds=>if ds.length≤sizeLine then some ds else none
  | none=>none
theorem z9q {g : DS->Option (List D)} {δ : DS} : z6l g δ=y4M (g δ):=by
  unfold z6l y4M
  cases g δ <;> rfl
theorem y5U {ds : List D} (h : ds.length≤1000000) : y4M (some ds)=some ds:=if_pos (z3r h)
theorem y1W {n : Int} : z7E [.int n]=some (.int n):=(rfl)
theorem y2y {k : Bool} : z7E [.bl k]=some (.int (if k=true then 1 else 0)):=(rfl)
def y1p (o : List Int) : D:=.tup (o.map .int)
def z3i (b : Int × List Int) : D:=.tup [.int b.1,y1p b.2]
def z7n (bs : List (Int × List Int)) : D:=.lst (bs.map z3i)
theorem z6L : ∀ o : List Int,z1l (o.map D.int)=true
  | []=>rfl
  | n :: o=>by
    show (true && z1l (o.map D.int))=true
    rw [z6L o]
    rfl
theorem imm_ord (o : List Int) : (y1p o).imm=true:=z6L o
theorem y2R (b : Int × List Int) : (z3i b).imm=true:=by
  show (true && ((y1p b.2).imm && true))=true
  rw [imm_ord]
  rfl
theorem y0A : ∀ bs : List (Int × List Int),z1l (bs.map z3i)=true
  | []=>rfl
  | b :: bs=>by
    show ((z3i b).imm && z1l (bs.map z3i))=true
    rw [y2R,y0A bs]
    rfl
theorem y4s {b : Int × List Int} : ixD (z3i b) (.int 0)=some (.int b.1):=(rfl)
theorem z6C {b : Int × List Int} : ixD (z3i b) (.int 1)=some (y1p b.2):=(rfl)
theorem z6s {bs : List (Int × List Int)} : y1r (z7n bs)=some (bs.map z3i):=(rfl)
theorem seq_ord {o : List Int} : y1r (y1p o)=some (o.map .int):=(rfl)
theorem len_vot {bs : List (Int × List Int)} : z3E [z7n bs]=some (.int (bs.length : Int)):=by
  show some (D.int ((bs.map z3i).length : Nat))=_
  rw [List.length_map]
theorem y3Q {o : List Int} : z3E [y1p o]=some (.int (o.length : Int)):=by
  show some (D.int ((o.map D.int).length : Nat))=_
  rw [List.length_map]
theorem z1M {x : Option Out} {b : SS->Option Out} {I : SS->Prop} {Q : Out->Prop} (h : hol x fun o=>∃ s,o = .nx s∧I s) (k : ∀ s,I s->hol (b s) Q) : hol (z5p x b) Q:=by
  obtain ⟨o,rfl,s,rfl,q⟩:=h
  exact k s q
theorem y6d {bs : List (Int × List Int)} {b : Int × List Int} (hl : bs.length≤1000000) : m0V z5W (some (z7n bs)) (some [z3i b])=some (z7n (bs ++ [b])):=by
  show Option.map _ (if (bs.map z3i).length < sizeLine then some (bs.map z3i ++ [z3i b]) else none)=_
  rw [List.length_map,if_pos (by rw [PySem.sizeLine_eq]; omega)]
  unfold z7n
  rw [List.map_append]
  rfl
def y5v (m : Nat) : List Int:=(List.range m).map fun k=>((k : Nat) : Int)
/-- votes as they are drawn -/
structure Good (m : Nat) (b : Int × List Int) : Prop where
  lo : 1≤b.1
  hi : b.1≤10 ^ 30
  perm : b.2.Perm (y5v m)
theorem Good.mem {m : Nat} {b : Int × List Int} (h : Good m b) {k : Nat} (hk : k < m) : ((k : Nat) : Int)∈b.2:=h.perm.mem_iff.mpr (List.mem_map.mpr ⟨k,List.mem_range.mpr hk,rfl⟩)
/-! the place of a thing in an order -/
def z6p (bs : List (Int × List Int)) : Int:=(bs.map (·.1)).sum
end L2

/-! ### M7: tables read by places; lists of things -/
namespace L2
open PySem
def at2 (T : List (List Bool)) (i j : Nat) : Bool:=(T.getD i []).getD j false
def thD (th : List Nat) : D:=.lst (th.map nD)
theorem ix_tab' {T : List (List Bool)} {i : Nat} (h : i < T.length) : ixD (tabD T) (.int (i : Int))=some (rowD (T.getD i [])):=by
  rw [ix_tab h]
  simp [List.getD,List.getElem?_eq_getElem h]
theorem ix_row' {r : List Bool} {j : Nat} (h : j < r.length) : ixD (rowD r) (.int (j : Int))=some (.bl (r.getD j false)):=by
  rw [ix_row h]
  simp [List.getD,List.getElem?_eq_getElem h]
theorem Sq.len {n : Nat} {T : List (List Bool)} (h : Sq n T) {i : Nat} (hi : i < n) : (T.getD i []).length=n:=by
  have h1 : i < T.length:=by rw [h.1]; exact hi
  have : T.getD i []=T[i]:=by simp [List.getD,List.getElem?_eq_getElem h1]
  rw [this]
  exact h.row h1
theorem ix2 {n : Nat} {T : List (List Bool)} (h : Sq n T) {i j : Nat} (hi : i < n) (hj : j < n) : o2 ixD (ixD (tabD T) (.int (i : Int))) (some (.int (j : Int)))=some (.bl (at2 T i j)):=by
  rw [ix_tab' (by rw [h.1]; exact hi),eo_2,ix_row' (by rw [h.len hi]; exact hj)]
  rfl
theorem z9X {th : List Nat} : z3E [thD th]=some (.int (th.length : Int)):=by
  show some (D.int ((th.map nD).length : Nat))=_
  rw [List.length_map]
theorem y2B : ∀ th : List Nat,z1l (th.map nD)=true
  | []=>rfl
  | n :: th=>by
    show (true && z1l (th.map nD))=true
    rw [y2B th]
    rfl
theorem ne_self {d : D} (h : okP d=true) : neD d d=some (.bl false):=by
  unfold neD
  rw [h]
  show (if (true && true)=true then some (D.bl (!PyData.eqv (toP d) (toP d))) else none)=_
  rw [if_pos (show (true && true)=true from rfl),SeqAt.eqv_refl _ (z0E h).1]
  rfl
theorem ins_thV {o : List Nat} {b v : Nat} (hb : b≤o.length) (hl : o.length≤1000000) : m0V y5x (some (thD o)) (some [.int (b : Int),.int (v : Int)])=some (thD (o.take b ++ v :: o.drop b)):=by
  show Option.map _ (if (o.map nD).length < sizeLine∧-(2 ^ 63)≤(b : Int)∧(b : Int) < 2 ^ 63 then _ else none)=_
  rw [List.length_map,if_pos ⟨by rw [PySem.sizeLine_eq]; omega,by omega,by omega⟩,ins_at hb]
  unfold thD
  rw [List.map_append,List.map_cons,List.map_take,List.map_drop]
  rfl
/-! pairs of a number and an item -/
theorem z9I {fi : DS->Option (List D)} {c : DS->Option Bool} {f : DE} {δ : DS} : z6g fi c f δ=z5P (fi δ) (two (y0M c f δ)):=by
  unfold z6g z5P
  cases fi δ <;> rfl
theorem y3m {f : DE} {δ : DS} : y6O f δ=(f δ).bind y6n:=(rfl)
end L2

/-! ### M8: dicts,turned and joined lists; the table of votes -/
namespace L2
open PySem
def chO (F G : D->D->Option D) (x y z : Option D) : Option D:=match x,y with
  | some x,some y=>match F x y with
    | some (.bl true)=>z.bind fun z=>G y z
    | some (.bl false)=>some (.bl false)
    | _=>none
  | _,_=>none
theorem z9W {F G : D->D->Option D} {f g h : DE} {δ : DS} : z6a F G f g h δ=chO F G (f δ) (g δ) (h δ):=by
  unfold z6a chO
  cases f δ <;> cases g δ <;> rfl
theorem y6Y {F G : D->D->Option D} {x y z : D} {b c : Bool} (h1 : F x y=some (.bl b)) (h2 : G y z=some (.bl c)) : chO F G (some x) (some y) (some z)=some (.bl (b && c)):=by
  show (match F x y with
    | some (.bl true)=>(some z).bind fun z=>G y z
    | some (.bl false)=>some (.bl false)
    | _=>none)=_
  rw [h1]
  cases b with
  | true=>exact h2
  | false=>rfl
def inO : Option D->Option D->Option Bool
  | some x,some y=>inK x y
  | _,_=>none
theorem y4J {f g : DE} {δ : DS} : y5z f g δ=inO (f δ) (g δ):=by
  unfold y5z inO
  cases f δ <;> cases g δ <;> rfl
theorem eo_in {x y : D} : inO (some x) (some y)=inK x y:=(rfl)
theorem y3M {f g : DE} {δ : DS} : dDNin f g δ=(y5z f g δ).map (!·):=(rfl)
def y7b (o k v : Option D) : Option D:=match o,k,v with
  | some (.dct ks ds),some dk,some d=>(z8X dk).bind fun k=>if z1l ds=true∧ks.length < sizeLine then some (.dct (z8D ks k) (z9i ks ds k d)) else none
  | _,_,_=>none
theorem m_dput {i : Nat} {s : SS} {dk d : D} {ks : List Key} {ds : List D} : (match z8X dk,(some (some (SD.ow (.dct ks ds))) : Option (Option SD)) with
      | some k,some (some (.ow (.dct ks ds)))=>if z1l ds=true∧ks.length < sizeLine then some (Out.nx ((z0x i s).set i (some (.ow (.dct (z8D ks k) (z9i ks ds k d)))))) else none
      | _,_=>none)=z3g i (y7b (some (.dct ks ds)) (some dk) (some d)) s:=by
  show _=z3g i ((z8X dk).bind _) s
  cases z8X dk with
  | none=>rfl
  | some k=>
    show (if z1l ds=true∧ks.length < sizeLine then _ else _)=z3g i (if z1l ds=true∧ks.length < sizeLine then _ else _) s
    split <;> rfl
theorem y4n {i : Nat} {fk fv : DE} {s : SS} : dput i fk fv s=z3g i (y7b (owA i s) (fk (z0o s)) (z7o (fv (z0o s)))) s:=by
  unfold dput owA
  rcases fv (z0o s) with _ | d
  · rcases fk (z0o s) with _ | dk <;> rcases s[i]? with _ | _ | ⟨x | x | ⟨r,x⟩⟩ <;> (first | rfl | (cases x <;> rfl))
  · show (if d.imm=true then _ else _)=z3g i (y7b _ _ (if d.imm=true then some d else none)) s
    split
    · rcases fk (z0o s) with _ | dk
      · rcases s[i]? with _ | _ | ⟨x | x | ⟨r,x⟩⟩ <;> (first | rfl | (cases x <;> rfl))
      · rw [Option.bind_some]
        rcases s[i]? with _ | _ | ⟨x | x | ⟨r,x⟩⟩
        · cases z8X dk <;> rfl
        · cases z8X dk <;> rfl
        · cases z8X dk <;> rfl
        · cases x with
          | dct ks ds=>exact m_dput
          | _=>(cases z8X dk <;> rfl)
        · cases z8X dk <;> rfl
    · rcases fk (z0o s) with _ | dk <;> rcases s[i]? with _ | _ | ⟨x | x | ⟨r,x⟩⟩ <;> (first | rfl | (cases x <;> rfl))
def exO (x : Option D) (s : SS) : Option Out:=match x with
  | some _=>some (.nx s)
  | none=>none
theorem y0G {f : DE} {s : SS} : exprN f s=exO (f (z0o s)) s:=by
  unfold exprN exO
  cases f (z0o s) <;> rfl
theorem eo_ex {d : D} {s : SS} : exO (some d) s=some (.nx s):=(rfl)
def z7H : Option D->Option D->Option (List D)
  | some x,some y=>catLs x y
  | _,_=>none
theorem y8w {f g : DE} {δ : DS} : z8x f g δ=z7H (f δ) (g δ):=by
  unfold z8x z7H
  cases f δ <;> cases g δ <;> rfl
def revO : Option D->Option D->Option (List D)
  | some x,some y=>revLs x y
  | _,_=>none
theorem y2Z {f g : DE} {δ : DS} : dRevL f g δ=revO (f δ) (g δ):=by
  unfold dRevL revO
  cases f δ <;> cases g δ <;> rfl
theorem y4D {ds : List D} : revO (some (.lst ds)) (some (.int (-1)))=some ds.reverse:=(rfl)
theorem y1Z {ds : List D} : revT (.tup ds) (.int (-1))=some (.tup ds.reverse):=(rfl)
theorem y8u {i j : Int} : maxF [.int i,.int j]=some (.int (if j > i then j else i)):=(rfl)
theorem y3g {ds es : List D} (h : ds.length + es.length≤1000000) : z7H (some (.lst ds)) (some (.lst es))=some (ds ++ es):=if_pos (z3r h)
theorem y2u {d : D} {r : SS} : y6i 0 (some (.ow d) :: r)=some (.sh d) :: r:=(rfl)
theorem y1V {i : Nat} {x : Option SD} {r : SS} : y6i (i + 1) (x :: r)=x :: y6i i r:=by
  unfold y6i
  rw [List.getElem?_cons_succ]
  rcases r[i]? with _ | _ | ⟨y | y | ⟨q,y⟩⟩ <;> rfl
/-! a dict of things told -/
def z7p (p : List Int) : D:=.dct (p.map Sum.inl) (p.map fun _=>.bl true)
theorem told_in {p : List Int} {x : Int} (h : x ∉ p) : inK (.int x) (z7p p)=some false:=by
  show some (z9O (p.map Sum.inl) (.inl x))=_
  congr 1
  unfold z9O
  rw [List.any_map,List.any_eq_false]
  intro y hy z
  have : (Sum.inl y : Key)=Sum.inl x:=of_decide_eq_true z
  cases this
  exact h hy
theorem z7C : ∀ p : List Int,z1l (p.map fun _=>D.bl true)=true
  | []=>rfl
  | _ :: p=>by
    show (true && z1l (p.map fun _=>D.bl true))=true
    rw [z7C p]
    rfl
theorem y6a {p : List Int} {x : Int} (h : x ∉ p) (hl : p.length≤1000000) : y7b (some (z7p p)) (some (.int x)) (some (.bl true))=some (z7p (p ++ [x])):=by
  show (if z1l (p.map fun _=>D.bl true)=true∧(p.map (Sum.inl : Int->Key)).length < sizeLine then _ else _)=_
  rw [if_pos ⟨z7C p,by rw [List.length_map,PySem.sizeLine_eq]; omega⟩]
  have hh : z9O (p.map Sum.inl) (.inl x)=false:=by
    have:=told_in h
    exact Option.some.inj this
  unfold z8D z9i z7p
  rw [hh,if_neg Bool.false_ne_true,if_neg Bool.false_ne_true,List.map_append,List.map_append]
  rfl
/-! the table of votes -/
theorem y6L {m : Nat} {x : Int} (h : x∈y5v m) : 0≤x∧x < (m : Int):=by
  obtain ⟨k,hk,rfl⟩:=List.mem_map.mp h
  have:=List.mem_range.mp hk
  omega
theorem z6q {m : Nat} : (y5v m).Nodup:=by
  unfold y5v
  rw [List.nodup_iff_pairwise_ne,List.pairwise_map]
  refine List.Pairwise.imp ?_ (List.nodup_iff_pairwise_ne.mp List.nodup_range)
  intro a b h z
  exact h (by omega)
theorem Good.nodup {m : Nat} {b : Int × List Int} (h : Good m b) : b.2.Nodup:=h.perm.nodup_iff.mpr z6q
theorem Good.len {m : Nat} {b : Int × List Int} (h : Good m b) : b.2.length=m:=by
  have:=h.perm.length_eq
  simpa [y5v] using this
end L2

/-! ### M9: clear,extend,sorted,reversed,range with a step; sums -/
namespace Prg
open PySem L2
def clrV : Option D->Option D
  | some (.lst _)=>some (.lst [])
  | _=>none
def extV (o x : Option D) : Option D:=match x,o with
  | some (.lst es),some (.lst ds)=>if ds.length + es.length≤sizeLine then some (.lst (ds ++ es)) else none
  | _,_=>none
theorem y5s {i : Nat} {s : SS} : clr0 i s=z3g i (clrV (owA i s)) s:=by
  unfold clr0 owA
  rcases s[i]? with _ | _ | ⟨x | x | ⟨r,x⟩⟩ <;> (first | rfl | (cases x <;> rfl))
theorem y0o {i : Nat} {f : DE} {s : SS} : y1S i f s=z3g i (extV (owA i s) (f (z0o s))) s:=by
  unfold y1S owA
  rcases f (z0o s) with _ | d
  · rcases s[i]? with _ | _ | ⟨x | x | ⟨r,x⟩⟩ <;> (first | rfl | (cases x <;> rfl))
  · rcases s[i]? with _ | _ | ⟨x | x | ⟨r,x⟩⟩ <;> cases d <;> (first | rfl | (cases x <;> first | rfl | skip))
    rename_i es ds
    show (if ds.length + es.length≤sizeLine then some _ else none)=z3g i (if ds.length + es.length≤sizeLine then some _ else none) s
    split <;> rfl
theorem y8Y {ds : List D} : clrV (some (.lst ds))=some (.lst []):=(rfl)
theorem y4B {f g h : DE} {δ : DS} : dRng3 f g h δ=rng3 (f δ) (g δ) (h δ):=(rfl)
theorem y7k {f : DE} {δ : DS} : dIsN f δ=(f δ).map isN:=(rfl)
theorem y2N {f : DE} {δ : DS} : y3E f δ=(f δ).map fun d=>!isN d:=(rfl)
theorem y7p {b c : Bool} : isB (.bl b) (.bl c)=some (.bl (b == c)):=(rfl)
theorem y3W {b c : Bool} : notB (.bl b) (.bl c)=some (.bl (b != c)):=(rfl)
theorem y1v {ds : List D} : revF [.lst ds]=some ds.reverse:=(rfl)
theorem z6t : ∀ ns : List Int,z1n (ns.map .int)=some ns
  | []=>rfl
  | n :: ns=>by
    rw [List.map_cons]
    unfold z1n
    rw [z6t ns]
    rfl
theorem y5Q {ns : List Int} (h : ns.length < 64) : z8W [.lst (ns.map .int)]=some ((z8U ns).map .int):=by
  show ((z1n (ns.map .int)).bind fun ns=>if ns.length < 64 then some ((z8U ns).map D.int) else none)=_
  rw [z6t,Option.bind_some,if_pos h]
/-! sums -/
def sm (f : Nat->Nat) : Nat->Nat
  | 0=>0
  | n + 1=>sm f n + f n
end Prg

/-! ### M10: comprehensions in place,loops that leave,things in lists -/
namespace L2
open PySem
theorem cx_of {α : Type} {enc : α->D} {c : DS->Option Bool} {f : DE} {δ : DS} (p : α->Bool) (g : α->D) {xs : List α} (hl : xs.length≤1000) (hc : ∀ x∈xs,c (δ ++ [some (enc x)])=some (p x)) (hf : ∀ x∈xs,p x=true->f (δ ++ [some (enc x)])=some (g x)) : z5P (some (xs.map enc)) (z5U c f δ)=some ((xs.filter p).map g):=by
  rw [z9a (by rw [List.length_map]; omega)]
  exact z9g p g hc hf
theorem z7y {α : Type} {enc : α->D} {f : DE} {δ : DS} (g : α->D) {xs : List α} (hl : xs.length≤1000) (hf : ∀ x∈xs,f (δ ++ [some (enc x)])=some (g x)) : z5P (some (xs.map enc)) (z5U z8y f δ)=some (xs.map g):=by
  rw [z9a (by rw [List.length_map]; omega)]
  exact z6k g hf
theorem z9D {m : Nat} (h : m≤1000000) : rng1 (some (.int (m : Int)))=some (z3L 0 m):=by rw [eo_rng1 (by omega)]; rfl
theorem z7Z {a b : List Nat} (h : a.length + b.length≤1000000) : z7H (some (thD a)) (some (thD b))=some ((a ++ b).map nD):=by
  show z7H (some (.lst (a.map nD))) (some (.lst (b.map nD)))=_
  rw [y3g (by rw [List.length_map,List.length_map]; exact h),List.map_append]
theorem y8P (o : List Nat) : D.lst (o.map nD)=thD o:=(rfl)
theorem z6v (o : List Nat) : z4r (some (o.map nD))=some (o.map nD):=z5C (y2B o)
theorem y0D : z4r (some [])=some []:=(rfl)
theorem th_nil : D.lst []=thD []:=(rfl)
/-! loops that leave with one answer -/
/-! x=y,taken over -/
def movX (x : Option D) (i j : Nat) (s : SS) : Option Out:=match x with
  | some d=>some (.nx (((z0x j s).set j none).set i (some (.ow d))))
  | none=>none
theorem y8t {i j : Nat} {s : SS} : movO i j s=movX (owA j s) i j s:=by
  unfold movO owA movX
  generalize s[j]? = z
  rcases z with _ | _ | x
  · rfl
  · rfl
  · cases x <;> rfl
theorem y7O {d : D} {i j : Nat} {s : SS} : movX (some d) i j s=some (.nx (((z0x j s).set j none).set i (some (.ow d)))):=(rfl)
/-! while -/
theorem z5J {c : DS->Option Bool} {b : SS->Option Out} {QO : Out->Prop} (I : Nat->SS->Prop) : ∀ {n : Nat} {s : SS},I n s->(∀ n δ,I n δ->∃ k,c (z0o δ)=some k∧(k=false->QO (.nx δ))∧(k=true->∃ n',n=n' + 1∧hol (b δ) fun o=>match o with | .nx δ'=>I n' δ' | .ct δ'=>I n' δ' | .bk δ'=>QO (.nx δ') | .rt d=>QO (.rt d) | .ex e δ'=>QO (.ex e δ')))->∀ {f : Nat},n < f->hol (z3O c b f s) QO
  | n,s,h0,hs,0,hf=>absurd hf (by omega)
  | n,s,h0,hs,f + 1,hf=>by
    obtain ⟨k,ec,h1,h2⟩:=hs n s h0
    unfold z3O
    rw [ec]
    cases k with
    | false=>exact ⟨_,rfl,h1 rfl⟩
    | true=>
      obtain ⟨n',rfl,o,eb,q⟩:=h2 rfl
      show hol ((b s).bind _) QO
      rw [eb]
      cases o with
      | nx s1=>exact z5J I q hs (by omega)
      | ct s1=>exact z5J I q hs (by omega)
      | bk s1=>exact ⟨_,rfl,q⟩
      | rt d=>exact ⟨_,rfl,q⟩
      | ex e s1=>exact ⟨_,rfl,q⟩
/-! reversed,parts from the end -/
theorem y2j {f : DE} {δ : DS} : dRevS f δ=(f δ).bind revS:=(rfl)
/-! loops that only look -/
def ckO (b : Option Bool) (x : Option D) : Option (Option D):=match b with
  | some true=>x.bind fun d=>if d.imm=true then some (some d) else none
  | some false=>some none
  | none=>none
theorem y0B {fc : DS->Option Bool} {fe : DE} {δ : DS} : chkIf fc fe δ=ckO (fc δ) (fe δ):=by
  unfold chkIf ckO
  generalize fc δ=b
  rcases b with _ | _ | _ <;> rfl
theorem y8T {x : Option D} : ckO (some false) x=some none:=(rfl)
def csO (x y : Option (Option D)) : Option (Option D):=match x with
  | some none=>y
  | some (some d)=>some (some d)
  | none=>none
theorem z8e {f g : DS->Option (Option D)} {δ : DS} : y7T f g δ=csO (f δ) (g δ):=by
  unfold y7T csO
  generalize f δ=b
  rcases b with _ | _ | _ <;> rfl
theorem y7i {y : Option (Option D)} : csO (some none) y=y:=(rfl)
def chkX (i : Nat) (ds : Option (List D)) (fb : DS->Option (Option D)) (s : SS) : Option Out:=match ds with
  | some ds=>if z1l ds=true then chkD i fb ds s else none
  | none=>none
theorem y4Q {i : Nat} {fi : DS->Option (List D)} {fb : DS->Option (Option D)} {s : SS} : forC i fi fb s=chkX i (fi (z0o s)) fb s:=by
  unfold forC chkX
  generalize fi (z0o s)=b
  rcases b with _ | _ <;> rfl
/-! exceptions -/
theorem runX_nx {np nl : Nat} {b : SS->Option Out} {ds : List D} (hl : ds.length=np) (h : hol (b (ds.map (fun d=>some (.sh d)) ++ List.replicate nl none)) fun o=>∃ s,o = .nx s) : y0C np nl b ds=some (.val .non):=by
  obtain ⟨_,e,s,rfl⟩:=h
  unfold y0C
  rw [if_pos hl,e]
theorem z6J {np nl : Nat} {b : SS->Option Out} {ds : List D} {c : Nat} (hl : ds.length=np) (h : hol (b (ds.map (fun d=>some (.sh d)) ++ List.replicate nl none)) fun o=>∃ s,o = .ex c s) : y0C np nl b ds=some (.exc c):=by
  obtain ⟨_,e,s,rfl⟩:=h
  unfold y0C
  rw [if_pos hl,e]
def rsX (c : Nat) (x : Option D) (s : SS) : Option Out:=match x with
  | some _=>some (.ex c s)
  | none=>none
theorem y0m {c : Nat} {f : DE} {s : SS} : z3V c f s=rsX c (f (z0o s)) s:=by
  unfold z3V rsX
  generalize f (z0o s)=x
  cases x <;> rfl
theorem y0t {c : Nat} {d : D} {s : SS} : rsX c (some d) s=some (.ex c s):=(rfl)
theorem y0p {m : List D->Option XO} {fl : List DE} {δ : DS} : z4d m fl δ=(z0j fl δ).bind m:=(rfl)
theorem z4P {m : List D->Option XO} {fl : List DE} {δ : DS} : z8v m fl δ=valO ((z0j fl δ).bind m):=(rfl)
theorem z9N {F : List D->Option D} {f0 : DE} {fl : List DE} {δ : DS} : y8k F f0 fl δ=mMV F (f0 δ) (z6I (z0j fl δ)):=by
  unfold y8k
  cases f0 δ with
  | none=>rfl
  | some d0=>
    cases z0j fl δ with
    | none=>rfl
    | some args=>
      show (if z1l args=true then F (d0 :: args) else none)=mMV F (some d0) (if z1l args=true then some args else none)
      split <;> rfl
def repO (x y : Option D) : Option (List D):=x.bind fun a=>y.bind fun b=>repLs a b
theorem y8e {f g : DE} {δ : DS} : dRep f g δ=repO (f δ) (g δ):=(rfl)
def ixXO (o : Option XO) (y : Option D) : Option XO:=match o with
  | some (.val d)=>y.bind fun y=>(ixD d y).bind fun z=>if z.imm=true then some (.val z) else none
  | some (.exc c)=>some (.exc c)
  | none=>none
theorem y8x {F : DS->Option XO} {g : DE} {δ : DS} : dIxX F g δ=ixXO (F δ) (g δ):=by
  unfold dIxX ixXO
  cases F δ with
  | none=>rfl
  | some o=>cases o <;> rfl
theorem y4e {c : Nat} {y : Option D} : ixXO (some (.exc c)) y=some (.exc c):=(rfl)
theorem z9x {f g : DE} {δ : DS} : dDisp1 f g δ=o2 mkD1 (f δ) (g δ):=ev_d2
theorem y3t {f g h : DE} {δ : DS} : dRngN f g h δ=rngN (f δ) (g δ) (h δ):=(rfl)
theorem y2q {a b : Int} : mkD1 (.int a) (.int b)=some (.dct [.inl a] [.int b]):=(rfl)
theorem y2a {ds : List D} {i : Int} : ixL (.lst ds) (.int i)=atI ds i:=(rfl)
def forX2 (i j : Nat) (xs : Option (List D)) (b : SS->Option Out) (s : SS) : Option Out:=xs.bind fun ds=>y2c i j b ds s
theorem y0u {i j : Nat} {f : DS->Option (List D)} {g : SS->Option Out} {s : SS} : forO2 i j f g s=forX2 i j (f (shV s)) g s:=(rfl)
theorem y3Y {i j : Nat} {ds : List D} {b : SS->Option Out} {s : SS} : forX2 i j (some ds) b s=y2c i j b ds s:=(rfl)
theorem y7h {d : D} : valO (some (.val d))=some d:=(rfl)
def xrO (x : Option XO) (s : SS) : Option Out:=match x with
  | some (.val d)=>some (.rt d)
  | some (.exc c)=>some (.ex c s)
  | none=>none
def xeO (x : Option XO) (s : SS) : Option Out:=match x with
  | some (.val _)=>some (.nx s)
  | some (.exc c)=>some (.ex c s)
  | none=>none
def xaO (i : Nat) (x : Option XO) (s : SS) : Option Out:=match x with
  | some (.val d)=>some (.nx (s.set i (some (.ow d))))
  | some (.exc c)=>some (.ex c s)
  | none=>none
theorem y4o {F : DS->Option XO} {s : SS} : retX F s=xrO (F (z0o s)) s:=by
  unfold retX xrO
  generalize F (z0o s)=x
  rcases x with _ | _ | _ <;> rfl
theorem y0y {F : DS->Option XO} {s : SS} : z7B F s=xeO (F (z0o s)) s:=by
  unfold z7B xeO
  generalize F (z0o s)=x
  rcases x with _ | _ | _ <;> rfl
theorem y4k {i : Nat} {F : DS->Option XO} {s : SS} : asgX i F s=xaO i (F (z0o s)) s:=by
  unfold asgX xaO
  generalize F (z0o s)=x
  rcases x with _ | _ | _ <;> rfl
theorem y8E {d : D} {s : SS} : xrO (some (.val d)) s=some (.rt d):=(rfl)
theorem y7Y {c : Nat} {s : SS} : xrO (some (.exc c)) s=some (.ex c s):=(rfl)
theorem y8b {d : D} {s : SS} : xeO (some (.val d)) s=some (.nx s):=(rfl)
theorem y8Z {c : Nat} {s : SS} : xeO (some (.exc c)) s=some (.ex c s):=(rfl)
theorem y8f {i : Nat} {d : D} {s : SS} : xaO i (some (.val d)) s=some (.nx (s.set i (some (.ow d)))):=(rfl)
theorem y7G {i c : Nat} {s : SS} : xaO i (some (.exc c)) s=some (.ex c s):=(rfl)
theorem y7B {c : Nat} {s : SS} {b : SS->Option Out} : z5p (some (.ex c s)) b=some (.ex c s):=(rfl)
def tryX (x : Option Out) (gh : Nat->SS->Option Out) : Option Out:=match x with
  | some (.ex c s)=>gh c s
  | o=>o
theorem y8F {gb : SS->Option Out} {gh : Nat->SS->Option Out} {s : SS} : tryO gb gh s=tryX (gb s) gh:=by
  unfold tryO tryX
  generalize gb s=x
  rcases x with _ | x
  · rfl
  · cases x <;> rfl
theorem y8D {s : SS} {gh : Nat->SS->Option Out} : tryX (some (.nx s)) gh=some (.nx s):=(rfl)
theorem y7L {d : D} {gh : Nat->SS->Option Out} : tryX (some (.rt d)) gh=some (.rt d):=(rfl)
theorem y8V {c : Nat} {s : SS} {gh : Nat->SS->Option Out} : tryX (some (.ex c s)) gh=gh c s:=(rfl)
/-! except .. as e -/
def unX (i : Nat) (x : Option Out) : Option Out:=match x with
  | some o=>unO i o
  | none=>none
theorem y9b {i : Nat} {x : Str} {g : SS->Option Out} {s : SS} : y6M i x g s=unX i (g (s.set i (some (.sh (.exc x))))):=by
  unfold y6M unX
  generalize g (s.set i (some (.sh (.exc x))))=z
  cases z <;> rfl
theorem y7n {i : Nat} {s : SS} : unX i (some (.nx s))=some (.nx (s.set i none)):=(rfl)
theorem y8a {i : Nat} {d : D} : unX i (some (.rt d))=some (.rt d):=(rfl)
/-! return [x,y] -/
def r2O (x y : Option D) : Option Out:=match x,y with
  | some d,some e=>some (.rt (.lst [d,e]))
  | _,_=>none
theorem y2z {i j : Nat} {s : SS} : ret2 i j s=r2O (z4N s i) (z4N s j):=by
  unfold ret2 r2O
  generalize z4N s i=x
  generalize z4N s j=y
  rcases x with _ | x <;> rcases y with _ | y <;> rfl
theorem eo_r2 {d e : D} : r2O (some d) (some e)=some (.rt (.lst [d,e])):=(rfl)
theorem y1T {d : D} {r : SS} : z4N (some (.ow d) :: r) 0=some d:=(rfl)
theorem y3y {d : D} {r : SS} : z4N (some (.sh d) :: r) 0=z7o (some d):=(rfl)
theorem y5a {x : Option SD} {r : SS} {i : Nat} : z4N (x :: r) (i + 1)=z4N r i:=by
  unfold z4N
  rw [List.getElem?_cons_succ]
end L2

/-! ### M11: what the newer layer files want -/
namespace L2
open PySem
def stepO (x y z : Option D) : Option (List D):=x.bind fun x=>y.bind fun y=>z.bind fun z=>y7W x y z
theorem y4z {f g h : DE} {δ : DS} : dStep f g h δ=stepO (f δ) (g δ) (h δ):=(rfl)
/-! ### loops over ranges of anything -/
def iv1 : Option D->Option (Int × Nat)
  | some (.int j)=>if -(2 ^ 62)≤j∧j < 2 ^ 62 then some (0,j.toNat) else none
  | _=>none
def iv2 : Option D->Option D->Option (Int × Nat)
  | some (.int i),some (.int j)=>if -(2 ^ 62)≤i∧i < 2 ^ 62∧-(2 ^ 62)≤j∧j < 2 ^ 62 then some (i,(j - i).toNat) else none
  | _,_=>none
theorem y8y {f : DE} {δ : DS} : dIv1 f δ=iv1 (f δ):=(rfl)
theorem y8r {f g : DE} {δ : DS} : dIv2 f g δ=iv2 (f δ) (g δ):=(rfl)
def forIX (i : Nat) (o : Option (Int × Nat)) (b : SS->Option Out) (s : SS) : Option Out:=o.bind fun z=>z3R i b (z3L z.1 z.2) s
theorem y5m {i : Nat} {f : DS->Option (Int × Nat)} {b : SS->Option Out} {s : SS} : forI i f b s=forIX i (f (z0o s)) b s:=(rfl)
theorem y3b {i : Nat} {lo : Int} {n : Nat} {b : SS->Option Out} {s : SS} : forIX i (some (lo,n)) b s=z3R i b (z3L lo n) s:=(rfl)
def r3O (x y z : Option D) : Option Out:=match x,y,z with
  | some d,some e,some f=>some (.rt (.lst [d,e,f]))
  | _,_,_=>none
theorem y2F {i j l : Nat} {s : SS} : ret3 i j l s=r3O (z4N s i) (z4N s j) (z4N s l):=by
  unfold ret3 r3O
  generalize z4N s i=x
  generalize z4N s j=y
  generalize z4N s l=z
  rcases x with _ | x <;> rcases y with _ | y <;> rcases z with _ | z <;> rfl
theorem eo_r3 {d e f : D} : r3O (some d) (some e) (some f)=some (.rt (.lst [d,e,f])):=(rfl)
/-! ### what can be compared -/
def okN (n : Nat) (d : D) : Prop:=(toP d).canLay0=true∧(toP d).depth≤n
def oksN (n : Nat) (ds : List D) : Prop:=PyData.canLayAll0 (z9h ds)=true∧PyData.depthAll (z9h ds)≤n
theorem z8G {n : Nat} : ∀ {ds : List D},(∀ d∈ds,okN n d)->oksN n ds
  | [],_=>⟨rfl,Nat.zero_le n⟩
  | d :: ds,h=>by
    have h1:=h d List.mem_cons_self
    have h2:=z8G fun x hx=>h x (List.mem_cons_of_mem _ hx)
    constructor
    · show (PyData.canLay0 (toP d) && PyData.canLayAll0 (z9h ds))=true
      rw [h1.1,h2.1]
      rfl
    · show max (PyData.depth (toP d)) (PyData.depthAll (z9h ds))≤n
      have:=h1.2
      have:=h2.2
      omega
theorem okN_lst {n : Nat} {ds : List D} (h : ∀ d∈ds,okN n d) : okN (n + 1) (.lst ds):=by
  have:=z8G h
  exact ⟨this.1,Nat.succ_le_succ this.2⟩
theorem z8R {n : Nat} {ds : List D} (h : ∀ d∈ds,okN n d) : okN (n + 1) (.tup ds):=by
  have:=z8G h
  exact ⟨this.1,Nat.succ_le_succ this.2⟩
theorem y4C {α : Type} {n : Nat} {f : α->D} {xs : List α} (h : ∀ x∈xs,okN n (f x)) : okN (n + 1) (.lst (xs.map f)):=okN_lst fun d hd=>by
  obtain ⟨x,hx,rfl⟩:=List.mem_map.mp hd
  exact h x hx
theorem y5R {α : Type} {n : Nat} {f : α->D} {xs : List α} (h : ∀ x∈xs,okN n (f x)) : okN (n + 1) (.tup (xs.map f)):=z8R fun d hd=>by
  obtain ⟨x,hx,rfl⟩:=List.mem_map.mp hd
  exact h x hx
theorem y2P {n k : Nat} {d : D} (h : okN n d) (hk : n≤k) : okN k d:=⟨h.1,Nat.le_trans h.2 hk⟩
theorem z6V {i : Int} : okN 0 (.int i):=⟨rfl,Nat.le_refl 0⟩
theorem y1J {n : Nat} : okN 0 (nD n):=z6V
theorem y8G (th : List Nat) : okN 1 (thD th):=y4C fun _ _=>y1J
theorem y8Q {n : Nat} {d : D} (h : okN n d) (hn : n≤60) : okP d=true:=by
  unfold okP
  rw [Bool.and_eq_true,decide_eq_true_eq]
  exact ⟨h.1,Nat.le_trans h.2 hn⟩
theorem z4p {n : Nat} {d : D} (h : okN n d) (hn : n≤60) : neD d d=some (.bl false):=ne_self (y8Q h hn)
theorem y1K {n : Nat} {d : D} (h : okN n d) (hn : n≤60) : eqD d d=some (.bl true):=eq_self (y8Q h hn)
/-! ### lists of anything -/
theorem y0b {α : Type} {enc : α->D} {xs : List α} {x : α} (hl : xs.length≤1000000) : m0V z5W (some (.lst (xs.map enc))) (some [enc x])=some (.lst ((xs ++ [x]).map enc)):=by
  show (if (xs.map enc).length < sizeLine then some (xs.map enc ++ [enc x]) else none).map D.lst=_
  rw [List.length_map,if_pos (by rw [PySem.sizeLine_eq]; omega),List.map_append]
  rfl
theorem y0d {α : Type} {enc : α->D} {xs : List α} {k : Nat} {x : α} (h : xs[k]? = some x) : ixD (.lst (xs.map enc)) (.int (k : Int))=some (enc x):=y5l (by rw [List.getElem?_map,h]; rfl)
theorem z6H {α : Type} {enc : α->D} {xs : List α} {k : Nat} {d : α} (h : k < xs.length) : ixD (.lst (xs.map enc)) (.int (k : Int))=some (enc (xs.getD k d)):=y0d (by simp [List.getD,List.getElem?_eq_getElem h])
theorem len_map {α : Type} {enc : α->D} {xs : List α} : z3E [.lst (xs.map enc)]=some (.int (xs.length : Int)):=by
  show some (D.int ((xs.map enc).length : Int))=_
  rw [List.length_map]
theorem z9w {x : D} {r : List D} : atI (x :: r) 0=some x:=z0Z (j:=0) rfl
theorem y7F {x y : D} {r : List D} : atI (x :: y :: r) 1=some y:=z0Z (j:=1) rfl
theorem y7x {x y z : D} {r : List D} : atI (x :: y :: z :: r) 2=some z:=z0Z (j:=2) rfl
def inD' (ws : List Int) : D:=.lst (ws.map .int)
/-! ### tuples of things; cuts -/
def ttD (o : List Nat) : D:=.tup (o.map nD)
theorem y7t {o : List Nat} : z3E [ttD o]=some (.int (o.length : Int)):=by
  show some (D.int ((o.map nD).length : Int))=_
  rw [List.length_map]
theorem y2J {o : List Nat} : y1r (ttD o)=some (o.map nD):=(rfl)
theorem y0f : ∀ {ds : List D},(∀ d∈ds,d.imm=true)->z1l ds=true
  | [],_=>rfl
  | d :: ds,h=>by
    show (d.imm && z1l ds)=true
    rw [h d List.mem_cons_self,y0f fun x hx=>h x (List.mem_cons_of_mem _ hx)]
    rfl
def y3X (x : Option D) (lo hi : Option (Option Int)) : Option D:=match x,lo,hi with
  | some (.tup ds),some l,some h=>some (.tup (z3s ds l h))
  | _,_,_=>none
theorem y1y {f : DE} {fl fh : DS->Option (Option Int)} {δ : DS} : z9c f fl fh δ=y3X (f δ) (fl δ) (fh δ):=by
  unfold z9c y3X
  rcases f δ with _ | (_ | _ | _ | _ | _ | _ | _ | _) <;> first | rfl | (cases fl δ <;> cases fh δ <;> rfl)
theorem z8K {n d k : Nat} : HT.sIx n d (some (k : Int))=min k n:=by
  show (if (k : Int) < 0 then ((k : Int) + (n : Int)).toNat else min (k : Int).toNat n)=_
  rw [if_neg (by omega),Int.toNat_natCast]
theorem y6c {n d : Nat} : HT.sIx n d (some (-1))=n - 1:=by
  show (if (-1 : Int) < 0 then ((-1 : Int) + (n : Int)).toNat else min (-1 : Int).toNat n)=_
  rw [if_pos (by omega)]
  omega
theorem z7J {ds : List D} {k : Nat} (hk : k≤ds.length) : z3s ds none (some (k : Int))=ds.take k:=by
  unfold z3s
  have e1 : HT.sIx ds.length 0 none=0:=rfl
  have e2 : HT.sIx ds.length ds.length (some (k : Int))=k:=by
    show (if (k : Int) < 0 then ((k : Int) + (ds.length : Int)).toNat else min (k : Int).toNat ds.length)=k
    rw [if_neg (by omega)]
    omega
  rw [e1,e2,List.drop_zero,Nat.sub_zero]
theorem z2S {ds : List D} {k : Nat} : z3s ds (some (k : Int)) none=ds.drop k:=by
  unfold z3s
  have e1 : HT.sIx ds.length 0 (some (k : Int))=min k ds.length:=by
    show (if (k : Int) < 0 then ((k : Int) + (ds.length : Int)).toNat else min (k : Int).toNat ds.length)=_
    rw [if_neg (by omega),Int.toNat_natCast]
  have e2 : HT.sIx ds.length ds.length none=ds.length:=rfl
  rw [e1,e2]
  by_cases h : k≤ds.length
  · rw [Nat.min_eq_left h]
    exact List.take_of_length_le (by rw [List.length_drop]; exact Nat.le_refl _)
  · rw [Nat.min_eq_right (by omega),List.drop_of_length_le (Nat.le_refl _),List.drop_of_length_le (by omega),List.take_nil]
theorem y3z {o : List Nat} {k : Nat} (hk : k≤o.length) : y3X (some (ttD o)) (some none) (some (some (k : Int)))=some (ttD (o.take k)):=by
  show some (D.tup (z3s (o.map nD) none (some (k : Int))))=_
  rw [z7J (by simpa using hk),← List.map_take]
  rfl
/-! ### lists put together,the script among them -/
def catSO (x y : Option D) : Option (List D):=x.bind fun x=>y.bind fun y=>catSs x y
theorem y2M {f g : DE} {δ : DS} : dCatS f g δ=catSO (f δ) (g δ):=(rfl)
/-! ### sorted(set(xs)) -/
theorem y0e {f : DE} {δ : DS} : dSortS f δ=(f δ).bind y7y:=(rfl)
/-! ### max,min of lists -/
theorem max_in {ws : List Int} (h : ws≠[]) : y3o [inD' ws]=some (.int (mxI ws)):=by
  show ((z1n (ws.map D.int)).bind fun ns=>if ns.isEmpty=true then none else some (D.int (mxI ns)))=_
  rw [z4L,Option.bind_some,if_neg (by simpa using h)]
theorem min_in {ws : List Int} (h : ws≠[]) : y2f [inD' ws]=some (.int (mnI ws)):=by
  show ((z1n (ws.map D.int)).bind fun ns=>if ns.isEmpty=true then none else some (D.int (mnI ns)))=_
  rw [z4L,Option.bind_some,if_neg (by simpa using h)]
/-! ### lists of ints -/
theorem lst_in {ws : List Int} : D.lst (ws.map .int)=inD' ws:=(rfl)
theorem flat_in (o : List Int) : z4r (some (o.map D.int))=some (o.map D.int):=z5C (z6L o)
/-! ### `if not` of a call that may raise -/
def xnO (x : Option XO) (g h : Option Out) (s : SS) : Option Out:=x.bind fun o=>match o with
  | .val (.bl k)=>if k=true then h else g
  | .exc c=>some (.ex c s)
  | _=>none
theorem y2n {F : DS->Option XO} {g h : SS->Option Out} {s : SS} : ifNX F g h s=xnO (F (z0o s)) (g s) (h s) s:=by
  unfold ifNX xnO
  rfl
theorem y9a {g h : Option Out} {s : SS} : xnO (some (.val (.bl true))) g h s=h:=(rfl)
theorem y8R {g h : Option Out} {s : SS} : xnO (some (.val (.bl false))) g h s=g:=(rfl)
theorem y8q {g h : Option Out} {s : SS} {c : Nat} : xnO (some (.exc c)) g h s=some (.ex c s):=(rfl)
/-! ### `for` over a call that may raise -/
def fxO (x : Option XO) (i : Nat) (g : SS->Option Out) (s : SS) : Option Out:=x.bind fun o=>match o with
  | .val (.lst ds)=>z3R i g ds s
  | .exc c=>some (.ex c s)
  | _=>none
theorem y3h {i : Nat} {F : DS->Option XO} {g : SS->Option Out} {s : SS} : forXO i F g s=fxO (F (z0o s)) i g s:=by
  unfold forXO fxO
  rfl
theorem y7A {i : Nat} {ds : List D} {g : SS->Option Out} {s : SS} : fxO (some (.val (.lst ds))) i g s=z3R i g ds s:=(rfl)
theorem y8J {i : Nat} {g : SS->Option Out} {s : SS} {c : Nat} : fxO (some (.exc c)) i g s=some (.ex c s):=(rfl)
end L2

/-! ### M12: what E63 and E64 want -/
namespace L2
open PySem
def cM2 (F : List D->Option D) (a b : Option D) (cs : Option (List D)) : Option D:=a.bind fun a=>b.bind fun b=>cs.bind fun cs=>F (a :: b :: cs)
theorem z7u {F : List D->Option D} {f0 f1 : DE} {fl : List DE} {δ : DS} : dCallM2 F f0 f1 fl δ=cM2 F (f0 δ) (f1 δ) (z0j fl δ):=(rfl)
theorem y7I {F : List D->Option D} {a b : D} {cs : List D} : cM2 F (some a) (some b) (some cs)=F (a :: b :: cs):=(rfl)
def r1O (x : Option D) : Option Out:=x.map fun d=>.rt (.lst [d])
theorem y2U {i : Nat} {s : SS} : ret1 i s=r1O (z4N s i):=(rfl)
theorem eo_r1 {d : D} : r1O (some d)=some (.rt (.lst [d])):=(rfl)
def apX (x y : Option D) (i j : Nat) (s : SS) : Option Out:=match x,y with
  | some d,some (.lst ds)=>(z5W ds [d]).map fun ds'=>.nx (givS i j (.lst ds') s)
  | _,_=>none
theorem y1M {i j : Nat} {s : SS} : appO i j s=apX (owA j s) (owA i s) i j s:=by
  unfold appO owA apX
  rcases s[j]? with _ | _ | ⟨x | x | ⟨r,x⟩⟩ <;> rcases s[i]? with _ | _ | ⟨y | y | ⟨r',y⟩⟩ <;> (first | rfl | (cases y <;> rfl))
end L2

/-! ### M13: what E66 wants -/
namespace L2
open PySem
def extDV (o x : Option D) : Option D:=match x,o with
  | some (.lst es),some (.lst ds)=>if z1l es=true∧ds.length + es.length≤sizeLine then some (.lst (ds ++ es)) else none
  | _,_=>none
theorem z9t {i : Nat} {f : DE} {s : SS} : ext0D i f s=z3g i (extDV (owA i s) (f (z0o s))) s:=by
  unfold ext0D owA
  cases f (z0o s) with
  | none=>rcases s[i]? with _ | _ | ⟨x | x | ⟨r,x⟩⟩ <;> rfl
  | some d=>
    cases d <;> rcases s[i]? with _ | _ | ⟨x | x | ⟨r,x⟩⟩ <;> (first | rfl | (cases x <;> (first | rfl | (show (if _ then _ else _)=z3g i (if _ then _ else _) s; split <;> rfl))))
end L2

/-! ### M14: what E68 wants -/
namespace L2
open PySem
def st0NV (o k v : Option D) : Option D:=match o,k,v with
  | some (.lst ds),some (.int k),some d=>(ixN ds.length k).map fun j=>.lst (ds.set j d)
  | _,_,_=>none
theorem y4p {i : Nat} {fk fv : DE} {s : SS} : st0N i fk fv s=z3g i (st0NV (owA i s) (fk (z0o s)) (fv (z0o s))) s:=by
  unfold st0N owA
  rcases fv (z0o s) with _ | d
  · rcases fk (z0o s) with _ | k <;> rcases s[i]? with _ | _ | ⟨x | x | ⟨r,x⟩⟩ <;> (first | rfl | (cases x <;> first | rfl | (cases k <;> rfl)))
  · rcases fk (z0o s) with _ | k
    · rcases s[i]? with _ | _ | ⟨x | x | ⟨r,x⟩⟩ <;> (first | rfl | (cases x <;> rfl))
    · rcases s[i]? with _ | _ | ⟨x | x | ⟨r,x⟩⟩ <;> cases k <;> (first | rfl | (cases x <;> first | rfl | skip))
      rename_i k ds
      show (ixN ds.length k).map _=z3g i ((ixN ds.length k).map _) s
      cases ixN ds.length k <;> rfl
end L2

/-! M15: zip,xs.append(ys.pop(0)) -/
namespace L2
open PySem
end L2

/-! M16: frozen lists of things -/
namespace L2
open PySem
end L2

set_option maxHeartbeats 4000000
namespace Prg
open PySem PySem.Spec PyProof.Rows L2
def top (i : Nat) : Stmt:=PySem.Challenge.pw_askorder_k54_lines_found.main.body.getD i (.Pass ⟨0,0,0,0⟩)
abbrev z2a : Stmt:=top 5
abbrev y1h : List Str:=["value", "many"]
abbrev z4y : List Str:=["value", "many"]
abbrev z0B : Stmt:=top 6
abbrev z4h : List Str:=["order", "many", "told", "thing"]
abbrev z1z : List Str:=["order", "many"]
abbrev z4f : Stmt:=top 7
abbrev N_asked : List Str:=["votes", "many", "ballot"]
abbrev z6F : List Str:=["votes", "many"]
abbrev z3n : Stmt:=top 8
abbrev y5S : List Str:=["votes"]
abbrev z6X : List Str:=["votes"]
abbrev z1r : Stmt:=top 9
abbrev z7P : List Str:=["order", "one", "other"]
abbrev z2W : List Str:=["order", "one", "other"]
abbrev z2A : Stmt:=top 11
abbrev y4g : List Str:=["order", "line"]
abbrev z5d : List Str:=["order", "line"]
abbrev z0y : Stmt:=top 12
abbrev z3T : List Str:=["things", "line", "places"]
abbrev z1x : List Str:=["things", "line"]
abbrev z2B : Stmt:=top 13
abbrev y2d : List Str:=["votes", "many", "lines", "ballot"]
abbrev z4a : List Str:=["votes", "many"]
abbrev z1D : Stmt:=top 14
abbrev z8L : List Str:=["order", "lines", "thing"]
abbrev z3D : List Str:=["order"]
abbrev z3p : Stmt:=top 15
abbrev y7a : List Str:=["votes", "many", "rising", "lasts"]
abbrev z7d : List Str:=["votes", "many"]
abbrev z4q : Stmt:=top 16
abbrev N_picks : List Str:=["count", "many", "found", "step"]
abbrev z8C : List Str:=["count", "many"]
abbrev z0O : Stmt:=top 17
abbrev z5E : List Str:=["found", "many", "longer", "things"]
abbrev z2d : List Str:=["found", "many"]
abbrev z1E : Stmt:=top 18
abbrev z9d : List Str:=["votes", "kind", "found", "things", "places"]
abbrev z3F : List Str:=["votes", "kind", "found"]
abbrev z1F : Stmt:=top 19
abbrev z8E : List Str:=["kind", "things", "first", "second"]
abbrev z3C : List Str:=["kind", "things"]
abbrev z0A : Stmt:=top 20
abbrev z4g : List Str:=["things", "last"]
abbrev z1A : List Str:=["things", "last"]
abbrev z0u : Stmt:=top 21
abbrev z3v : List Str:=["one", "between", "other", "above"]
abbrev z1g : List Str:=["one", "between", "other", "above"]
abbrev z0V : Stmt:=top 22
abbrev z5T : List Str:=["votes", "wanted", "places", "pairs", "found"]
abbrev z2x : List Str:=["votes", "wanted"]
abbrev z0F : Stmt:=top 23
abbrev z4I : List Str:=["order", "pairs"]
abbrev z1U : List Str:=["order", "pairs"]
abbrev z0U : Stmt:=top 25
abbrev z5R : List Str:=["script", "k"]
abbrev z2z : List Str:=["script", "k"]
abbrev z1s : Stmt:=top 26
abbrev z7x : List Str:=["found"]
abbrev z3b : List Str:=["found"]
abbrev z1p : Stmt:=top 27
abbrev z7Q : List Str:=["cell", "many", "order", "k"]
abbrev z3j : List Str:=["cell", "many"]
abbrev z0T : Stmt:=top 28
abbrev z5Q : List Str:=["cell", "line", "low", "high", "order"]
abbrev z2s : List Str:=["cell", "line"]
abbrev z1G : Stmt:=top 29
abbrev z8J : List Str:=["order", "line", "low", "high", "one", "at"]
abbrev z3I : List Str:=["order", "line"]
abbrev z1q : Stmt:=top 30
abbrev z7U : List Str:=["script", "many", "line", "votes", "cell"]
abbrev z2V : List Str:=["script", "many", "line"]
abbrev z0C : Stmt:=top 31
abbrev z4i : List Str:=["votes", "many", "line", "one"]
abbrev z1H : List Str:=["votes", "many", "line"]
abbrev z0R : Stmt:=top 32
abbrev z5X : List Str:=["votes", "many", "word", "e"]
abbrev z2y : List Str:=["votes", "many"]
abbrev z0S : Stmt:=top 33
abbrev z5S : List Str:=["votes", "many", "cell", "at", "order", "bad", "spoiled", "more"]
abbrev z2v : List Str:=["votes", "many", "cell"]
abbrev z7h : Stmt:=top 34
abbrev N_law : List Str:=["script", "many", "line", "votes", "handed", "paper", "kept"]
abbrev P_law : List Str:=["script"]
theorem nd0 : (["votes", "ballot"] : List Str).Nodup:=by decide +kernel
theorem nd1 : (["things", "line", "places", "thing"] : List Str).Nodup:=by decide +kernel
theorem nd2 : (["order", "line", "count"] : List Str).Nodup:=by decide +kernel
theorem nd3 : (["order", "lines", "thing", "line"] : List Str).Nodup:=by decide +kernel
theorem nd4 : (["found", "many", "longer", "things", "thing"] : List Str).Nodup:=by decide +kernel
theorem nd5 : (["things", "last", "thing"] : List Str).Nodup:=by decide +kernel
theorem nd6 : (["kind", "things", "first", "second", "last"] : List Str).Nodup:=by decide +kernel
theorem nd7 : (["order", "pairs", "pair"] : List Str).Nodup:=by decide +kernel
theorem nd8 : (["votes", "wanted", "places", "pairs", "found", "place", "ballot"] : List Str).Nodup:=by decide +kernel
theorem nd9 : (["votes", "many", "rising", "lasts", "things"] : List Str).Nodup:=by decide +kernel
theorem nd10 : (["votes", "many", "lines", "ballot", "line"] : List Str).Nodup:=by decide +kernel
theorem nd11 : (["script", "many", "line", "votes", "cell", "ballot"] : List Str).Nodup:=by decide +kernel
theorem nd12 : (["votes", "many", "line", "one", "ballot"] : List Str).Nodup:=by decide +kernel
def z4w : SS->Option Out:=(z3d (y7d (dIs "int" (z0d 0)) (y7d (d1 uNot (dIs "bool" (z0d 0))) (z6a leI ltI (dC (.int 0)) (z0d 0) (z0d 1)))))
def z1Z : List D->Option D:=z2L 2 0 z4w
def z1c : SS->Option Out:=(z0W (ifO (z0P (d2 neD (z0k z3E [(z0d 0)]) (z0d 1))) (z3d (dC (.bl false))) z1Y)
  (z0W (z4l 2 (dC (.dct [] [])))
  (z0W (z8w 3 (z4G (z0d 0)) (z0W (ifO (y1m (z3K (z1T (z0k z1Z [(z0d 3),(z0d 1)]))) (y5z (z0d 3) (z0d 2))) (z3d (dC (.bl false))) z1Y)
  (dput 2 (z0d 3) (dC (.bl true)))))
  (z3d (dC (.bl true))))))
def z0w : List D->Option D:=z2L 2 2 z1c
def z7j : SS->Option Out:=(z3d (z0k sumF [(mkL (z1X (z4G (z0d 0)) z8y (d2 ixD (z0d 1) (dC (.int 0)))))]))
def z3Z : List D->Option D:=z2L 1 0 z7j
def z5m : SS->Option Out:=(z0W (z8w 2 (z4G (z0d 0)) (ifO (z3K (z1T (z0k z0w [(d2 ixD (z0d 2) (dC (.int 1))),(z0d 1)]))) (z3V 1 (dC (.str "the order of a ballot does not tell each thing once and nothing else"))) z1Y))
  (ifO (z0P (d2 eqD (d2 z4H (z0k z3Z [(z0d 0)]) (dC (.int 2))) (dC (.int 0)))) (z3V 2 (dC (.str "the voices of all ballots together are an even number"))) z1Y))
def z2Z : List D->Option XO:=y0C 2 1 z5m
def z4C : SS->Option Out:=(z3d (d2 ltI (d2 tixF (z0d 0) (z0d 1)) (d2 tixF (z0d 0) (z0d 2))))
def z2k : List D->Option D:=z2L 3 0 z4C
def z1v : SS->Option Out:=(z0W (z4l 2 (z0D (z1X (z4G (z0d 0)) z8y (d2 y6T (z0d 1) (z0d 3)))))
  (z3d (d2 eqD (d2 y5w (z0k y3o [(z0d 2)]) (z0k y2f [(z0d 2)])) (d2 y5w (z0k z3E [(z0d 0)]) (dC (.int 1))))))
def z0H : List D->Option D:=z2L 2 1 z1v
def z4W : SS->Option Out:=(z3d (z0k allF [(mkL (z1X (y6g (dC (.int 1)) (d2 z6j (z0k z3E [(z0d 0)]) (dC (.int 1)))) z8y (z0k z0H [(z9c (z0d 0) z2e (z3t (z0d 2))),(z0d 1)])))]))
def z3m : List D->Option D:=z2L 2 0 z4W
def z3H : SS->Option Out:=(z0W (y6Z 1 (mkL (z0j [(z0D (z0j [(d2 ixD (z0d 0) (dC (.int 0)))]))])))
  (z0W (z8w 2 (z4G (z9c (z0d 0) (z3t (dC (.int 1))) z2e)) (y6Z 1 (mkL (z8x (mkL (z1X (z4G (z0d 1)) z8y (z0D (z8x (mkL (z0j [(z0d 2)])) (z0d 3))))) (mkL (z1X (z4G (z0d 1)) z8y (z0D (z8x (z0d 3) (mkL (z0j [(z0d 2)]))))))))))
  (retS (z0d 1))))
def z2b : List D->Option D:=z2L 1 2 z3H
def z2U : SS->Option Out:=(z0W (z4l 2 (z0D (z0j [])))
  (z0W (z8w 3 (z4G (z0d 0)) (y1S 2 (z0D (z1X (z5N (z0d 1)) (z0P (d2 ninD (z0d 4) (z0d 3))) (d2 catT (z0d 3) (mkT (z0j [(z0d 4)])))))))
  (y5y 2)))
def z1t : List D->Option D:=z2L 2 2 z2U
def y2O : SS->Option Out:=(z0W (z4l 2 (z0D (z0j [(mkT (z0j []))])))
  (z0W (z8w 3 (z5N (z0d 0)) (z4l 2 (z0k z1t [(z0d 2),(z0d 1)])))
  (y5y 2)))
def z5b : List D->Option D:=z2L 2 2 y2O
def z2C : SS->Option Out:=(y8i (z0D (z1X (z4G (z0d 0)) (z0P (d2 neD (z0d 2) (z0d 1))) (mkT (z0j [(z0d 2),(z0d 1)])))))
def z1e : List D->Option D:=z2L 2 0 z2C
def z1V : SS->Option Out:=(y8i (z0D (z0j [(mkT (z0j [(z0d 0),(z0d 1)])),(mkT (z0j [(z0d 1),(z0d 2)])),(mkT (z0j [(z0d 3),(z0d 1)]))])))
def z0z : List D->Option D:=z2L 4 0 z1V
def z5G : SS->Option Out:=(z0W (ifO (z0P (d2 eqD (z0d 0) (dC (.str "lasts")))) (y8i (mkL (z1X (z4G (z0d 1)) z8y (z0k z1e [(z0d 1),(z0d 4)])))) z1Y)
  (z0W (z4l 2 (z0k z0z [(d2 ixD (z0d 1) (dC (.int 0))),(d2 ixD (z0d 1) (dC (.int 1))),(d2 ixD (z0d 1) (dC (.int 2))),(d2 ixD (z0d 1) (dC (.int 3)))]))
  (z0W (z4l 3 (z0k z0z [(d2 ixD (z0d 1) (dC (.int 2))),(d2 ixD (z0d 1) (dC (.int 1))),(d2 ixD (z0d 1) (dC (.int 0))),(d2 ixD (z0d 1) (dC (.int 3)))]))
  (ret2 2 3))))
def z2I : List D->Option D:=z2L 2 2 z5G
def z2P : SS->Option Out:=(z3d (z0k allF [(mkL (z1X (z4G (z0d 1)) z8y (z0k z2k [(z0d 0),(d2 ixD (z0d 2) (dC (.int 0))),(d2 ixD (z0d 2) (dC (.int 1)))])))]))
def z1m : List D->Option D:=z2L 2 0 z2P
def z3z : SS->Option Out:=(z0W (z4l 2 (z0D (z0j [])))
  (z0W (z8w 3 (z4G (z0d 1)) (z0W (z4l 4 (z0D (z6g (y6O (z0d 0)) (z1T (z0k z1m [(d2 ixD (z0d 6) (dC (.int 1))),(z0d 3)])) (z0d 5))))
  (z0W (ifO (z3K (z1T (z0d 4))) (z3d (dC .non)) z1Y)
  (m0 2 z5W [(d2 ixD (z0d 4) (dC (.int 0)))]))))
  (z3d (z0k y1P [(z0d 2)]))))
def z1L : List D->Option D:=z2L 2 3 z3z
def z5M : SS->Option Out:=(z0W (z8w 3 (z4G (z0d 2)) (z0W (z4l 4 (z0k z1L [(z0d 0),(z0k z2I [(z0d 1),(z0d 3)])]))
  (ifO (y3E (z0d 4)) (z3d (mkT (z0j [(z0d 1),(z0d 3),(z0d 4)]))) z1Y)))
  (z3d (dC .non)))
def z2j : List D->Option D:=z2L 3 2 z5M
def z9S : SS->Option Out:=(z0W (z4l 2 (z0D (z1X (z4G (z0k z5b [(dC (.int 3)),(z0d 1)])) (z0P (d2 eqD (mkL (z2N z4A [(z0d 4)])) (mkL (z2N z8W [(z0d 4)])))) (z0d 4))))
  (z0W (z4l 3 (z0k z2j [(z0d 0),(dC (.str "lasts")),(z0d 2)]))
  (z0W (ifO (y3E (z0d 3)) (z3d (z0d 3)) z1Y)
  (y8i (z0k z2j [(z0d 0),(dC (.str "turned")),(z0k z5b [(dC (.int 4)),(z0d 1)])])))))
def z4Q : List D->Option D:=z2L 2 2 z9S
def z3a : SS->Option Out:=(z0W (z7B (z4d z2Z [(z0d 0),(z0d 1)]))
  (z0W (y6Z 2 (z0k z2b [(d2 ixD (d2 ixD (z0d 0) (dC (.int 0))) (dC (.int 1)))]))
  (z0W (z8w 3 (z4G (mkL (y1o (z0d 0) (z3t (dC (.int 1))) z2e))) (y6Z 2 (mkL (z1X (z4G (z0d 2)) (z1T (z0k z3m [(d2 ixD (z0d 3) (dC (.int 1))),(z0d 4)])) (z0d 4)))))
  (z0W (ifO (z1T (z0d 2)) (retS (mkT (z0j [(dC (.str "line")),(d2 ixD (z0d 2) (dC (.int 0)))]))) z1Y)
  (retS (z0k z4Q [(z0d 0),(z0d 1)]))))))
def z1a : List D->Option XO:=y0C 2 2 z3a
def z1K : SS->Option Out:=(z0W (ifO (z0P (d2 ltI (z0d 1) (z0k z3E [(z0d 0)]))) (z3d (d2 ixD (z0d 0) (z0d 1))) z1Y)
  (z3d (dC (.int 0))))
def z0q : List D->Option D:=z2L 2 0 z1K
def z3h : SS->Option Out:=(z3d (y7d (dIs "int" (z0d 0)) (d1 uNot (dIs "bool" (z0d 0)))))
def z1Q : List D->Option D:=z2L 1 0 z3h
def z2X : SS->Option Out:=(z0W (z4l 2 (z0D (z0j [])))
  (z0W (z8w 3 (z5N (z0d 1)) (z0W (m0 2 y5x [(d2 z4H (z0d 0) (d2 z6j (z0d 3) (dC (.int 1)))),(z0d 3)])
  (z3J 0 (d2 z9M (z0d 0) (d2 z6j (z0d 3) (dC (.int 1)))))))
  (y5y 2)))
def z1P : List D->Option D:=z2L 2 2 z2X
def z2u : SS->Option Out:=(z0W (z3J 2 (d2 z4H (z0d 0) (z0k z3E [(z0d 1)])))
  (z0W (z3J 3 (d2 z6j (z0d 2) (dC (.int 1))))
  (z0W (z4l 4 (z0D (z0j [(d2 ixD (z0d 1) (z0d 2))])))
  (z0W (z3J 0 (d2 z9M (z0d 0) (z0k z3E [(z0d 1)])))
  (z0W (z3O (z0P (d2 ltI (z0k z3E [(z0d 4)]) (z0k z3E [(z0d 1)]))) (z0W (ifO (y1m (z0P (d2 eqD (z0d 3) (z0k z3E [(z0d 1)]))) (y1k (z0P (d2 gtI (z0d 2) (dC (.int 0)))) (z0P (d2 eqD (d2 z4H (z0d 0) (dC (.int 2))) (dC (.int 1)))))) (z0W (z3J 2 (d2 y5w (z0d 2) (dC (.int 1))))
  (m0 4 z5W [(d2 ixD (z0d 1) (z0d 2))])) (z0W (m0 4 z5W [(d2 ixD (z0d 1) (z0d 3))])
  (z3J 3 (d2 z6j (z0d 3) (dC (.int 1))))))
  (z3J 0 (d2 z9M (z0d 0) (dC (.int 2))))) 100)
  (y5y 4))))))
def z1h : List D->Option D:=z2L 2 3 z2u
def z3B : SS->Option Out:=(z0W (z3J 2 (d2 y6T (z0d 1) (d2 ixD (z0d 0) (dC (.int 0)))))
  (z0W (z3J 3 (z0d 2))
  (z0W (z8w 4 (z4G (z9c (z0d 0) (z3t (dC (.int 1))) z2e)) (z0W (z3J 5 (d2 y6T (z0d 1) (z0d 4)))
  (ifO (z0P (d2 eqD (z0d 5) (d2 y5w (z0d 2) (dC (.int 1))))) (z3J 2 (z0d 5)) (ifO (z0P (d2 eqD (z0d 5) (d2 z6j (z0d 3) (dC (.int 1))))) (z3J 3 (z0d 5)) (z3d (dC (.bl false)))))))
  (z3d (dC (.bl true))))))
def z1C : List D->Option D:=z2L 2 4 z3B
def z2Y : SS->Option Out:=(z0W (z4l 3 (z0D (z0j [])))
  (z0W (z8w 4 (z4G (mkL (y1o (z0d 0) (z3t (dC (.int 3))) (z3t (dC (.int 43)))))) (m0 3 z5W [(mkT (z0j [(d2 z6j (dC (.int 1)) (d2 z4H (d2 z9M (z0d 4) (dC (.int 40320))) (d2 y5w (d2 powI (dC (.int 10)) (dC (.int 30))) (dC (.int 1))))),(z0k y1P [(z0k z1h [(d2 z4H (z0d 4) (dC (.int 40320))),(z0d 2)])])]))]))
  (z0W (ifO (z0P (d2 eqD (z0k z3E [(z0d 3)]) (dC (.int 0)))) (m0 3 z5W [(mkT (z0j [(d2 z6j (dC (.int 1)) (d2 z4H (z0k z0q [(z0d 0),(dC (.int 2))]) (d2 y5w (d2 powI (dC (.int 10)) (dC (.int 30))) (dC (.int 1))))),(z0k y1P [(z0d 2)])]))]) z1Y)
  (z0W (ifO (z0P (d2 eqD (d2 z4H (z0k sumF [(mkL (z1X (z4G (z0d 3)) z8y (d2 ixD (z0d 5) (dC (.int 0)))))]) (dC (.int 2))) (dC (.int 0)))) (st0 3 (dC (.int 0)) (mkT (z0j [(d2 z6j (d2 ixD (d2 ixD (z0d 3) (dC (.int 0))) (dC (.int 0))) (dC (.int 1))),(d2 ixD (d2 ixD (z0d 3) (dC (.int 0))) (dC (.int 1)))]))) z1Y)
  (y5y 3)))))
def z1S : List D->Option D:=z2L 3 2 z2Y
def z1B : SS->Option Out:=(z0W (ifO (y1m (z3K (z1T (dIs "list" (z0d 2)))) (z0P (d2 neD (z0k z3E [(z0d 2)]) (z0d 1)))) (z3d (dC (.bl false))) z1Y)
  (z0W (z8w 3 (z4G (z0d 2)) (ifO (z3K (z1T (z0k z1Q [(z0d 3)]))) (z3d (dC (.bl false))) z1Y))
  (z0W (ifO (z0P (d2 neD (mkL (z2N z8W [(z0d 2)])) (mkL (z6l (z5N (z0d 1)))))) (z3d (dC (.bl false))) z1Y)
  (z3d (d2 eqD (z0k z3E [(mkL (z1X (z4G (z0d 0)) (z3K (z1T (z0k z1C [(d2 ixD (z0d 4) (dC (.int 1))),(z0d 2)]))) (z0d 4)))]) (dC (.int 0)))))))
def z0N : List D->Option D:=z2L 3 1 z1B
def z1I : SS->Option Out:=(z0W (z3J 2 (dC (.str "none")))
  (z0W (tryO (z7B (z4d z1a [(z0d 0),(z0d 1)])) (fun c=>match c with | 0=>fun _=>none | 1=>(y6M 3 "BadBallot" (z3J 2 (d2 ixD (mkL (z0j [(dC (.str "other")),(dC (.str "ballot")),(dC (.str "even")),(dC (.str "odd"))])) (d2 z6j (z0k z7E [(d1 (z8A ["BadBallot"] ["Even", "BadBallot"]) (z0d 3))]) (d2 mulI (dC (.int 2)) (z0k z7E [(d1 (z8A ["Even"] ["Even", "BadBallot"]) (z0d 3))])))))) | 2=>(y6M 3 "Even" (z3J 2 (d2 ixD (mkL (z0j [(dC (.str "other")),(dC (.str "ballot")),(dC (.str "even")),(dC (.str "odd"))])) (d2 z6j (z0k z7E [(d1 (z8A ["BadBallot"] ["Even", "BadBallot"]) (z0d 3))]) (d2 mulI (dC (.int 2)) (z0k z7E [(d1 (z8A ["Even"] ["Even", "BadBallot"]) (z0d 3))])))))) | _ + 3=>fun _=>none))
  (z3d (z0d 2))))
def z0r : List D->Option D:=z2L 2 2 z1I
def z2t : SS->Option Out:=(z0W (z3J 3 (d2 z4H (z0d 2) (z0k z3E [(z0d 0)])))
  (z0W (z4l 4 (z0D (z2N z4A [(d2 ixD (d2 ixD (z0d 0) (z0d 3)) (dC (.int 1)))])))
  (z0W (z4l 5 (d2 ixL (mkL (z0j [(z0D (y1o (z0d 4) z2e (z3t (d1 uNeg (dC (.int 1)))))),(z0D (z8x (z0d 4) (mkL (z0j [(d2 ixD (z0d 4) (dC (.int 0)))])))),(z0D (z8x (mkL (y1o (z0d 4) (z3t (dC (.int 1))) z2e)) (mkL (z0j [(z0d 1)])))),(z0D (z8x (mkL (y1o (z0d 4) (z3t (dC (.int 1))) (z3t (dC (.int 2))))) (mkL (y1o (z0d 4) (z3t (dC (.int 1))) z2e))))])) (d2 z4H (d2 z9M (z0d 2) (dC (.int 99))) (dC (.int 4)))))
  (z0W (z4l 6 (z0D (z8x (mkL (z8x (mkL (y1o (z0d 0) z2e (z3t (z0d 3)))) (mkL (z0j [(mkT (z0j [(d2 ixD (d2 ixD (z0d 0) (z0d 3)) (dC (.int 0))),(z0k y1P [(z0d 5)])]))])))) (mkL (y1o (z0d 0) (z3t (d2 z6j (z0d 3) (dC (.int 1)))) z2e)))))
  (z0W (z4l 7 (z0D (z0j [(mkT (z0j [(dC (.int 1)),(d2 ixD (d2 ixD (z0d 0) (z0d 3)) (dC (.int 1)))]))])))
  (z0W (ifO (y1m (z0P (d2 neD (z0k z0r [(mkL (z8x (z0d 0) (z0d 7))),(z0d 1)]) (dC (.str "even")))) (z0P (d2 neD (z0k z0r [(mkL (z0j [])),(z0d 1)]) (dC (.str "even"))))) (z3d (dC (.bl false))) z1Y)
  (z3d (y7d (d2 eqD (z0k z0r [(z0d 6),(z0d 1)]) (dC (.str "ballot"))) (d2 eqD (z0k z0r [(mkL (z8x (z0d 6) (z0d 7))),(z0d 1)]) (dC (.str "ballot")))))))))))
def z1j : List D->Option D:=z2L 3 5 z2t
def g_law : SS->Option Out:=(z0W (z3J 1 (d2 z6j (dC (.int 1)) (d2 z4H (z0k z0q [(z0d 0),(dC (.int 0))]) (dC (.int 8)))))
  (z0W (z4l 2 (z0k z1P [(z0k z0q [(z0d 0),(dC (.int 1))]),(z0d 1)]))
  (z0W (z4l 3 (z0k z1S [(z0d 0),(z0d 1),(z0d 2)]))
  (z0W (z4l 4 (z0D (z2N z4A [(z0d 3)])))
  (z0W (frzO 4 (y6Z 5 (z8v z1a [(z0d 4),(z0d 1)])))
  (z0W (ifO (y1m (z3K (z1T (dIs "tuple" (z0d 5)))) (y1m (z0P (d2 neD (z0k z3E [(z0d 5)]) (dC (.int 2)))) (y1m (z0P (d2 neD (d2 ixD (z0d 5) (dC (.int 0))) (dC (.str "line")))) (z0P (d2 neD (z0d 4) (z0d 3)))))) (z3d (dC (.bl false))) z1Y)
  (z0W (ifO (z3K (z1T (z0k z0N [(z0d 3),(z0d 1),(d2 ixD (z0d 5) (dC (.int 1)))]))) (z3d (dC (.bl false))) z1Y)
  (z0W (z4l 6 (z0D (z2N z4A [(d2 ixD (z0d 5) (dC (.int 1)))])))
  (fgT 5 (z0d 1)
  (z3d (y7d (d2 eqD (z8v z1a [(z0d 4),(z0d 1)]) (mkT (z0j [(dC (.str "line")),(z0d 6)]))) (z0k z1j [(z0d 3),(z0d 1),(z0k z0q [(z0d 0),(dC (.int 2))])]))))))))))))
def y0T : List D->Option D:=z2L 1 6 g_law
structure Txt (mg : Str->Option Value) : Prop where
  b_int : mg "int" = none
  b_isinstance : mg "isinstance" = none
  b_bool : mg "bool" = none
  b_len : mg "len" = none
  b_sum : mg "sum" = none
  b_max : mg "max" = none
  b_min : mg "min" = none
  b_range : mg "range" = none
  b_all : mg "all" = none
  b_tuple : mg "tuple" = none
  b_enumerate : mg "enumerate" = none
  b_list : mg "list" = none
  b_sorted : mg "sorted" = none
structure Cls (K : PySem.W.Frag) (mg : Str->Option Value) (base : Heap) (cl : Nat->Value) : Prop where
  o_AskError : ∃ C,cl 0 = .ref C∧OwnCls "AskError" C bmVE "ValueError.__new__" mg base∧PySem.W.nsIn K mainGlobals "AskError" = some (some (.ref C))∧z4u K C=true
  o_BadBallot : ∃ C,cl 1 = .ref C∧OwnCls "BadBallot" C bmVE "ValueError.__new__" mg base∧PySem.W.nsIn K mainGlobals "BadBallot" = some (some (.ref C))∧z4u K C=true
  o_Even : ∃ C,cl 2 = .ref C∧OwnCls "Even" C bmVE "ValueError.__new__" mg base∧PySem.W.nsIn K mainGlobals "Even" = some (some (.ref C))∧z4u K C=true
  e_Even_AskError : ∀ C,cl 0 = .ref C->PySem.W.exmOne K (cl 2) (.ref C)=some true
  e_BadBallot_AskError : ∀ C,cl 0 = .ref C->PySem.W.exmOne K (cl 1) (.ref C)=some true
  k_BadBallot : ∀ D,cl 1 = .ref D->∀ x,x∈(["Even", "BadBallot"] : List Str)->∀ C,PySem.W.nsIn K mainGlobals x=some (some (.ref C))->PySem.W.kitOne K (.ref C) (.ref D)=some ((["BadBallot"] : List Str).contains x)
  k_Even : ∀ D,cl 2 = .ref D->∀ x,x∈(["Even", "BadBallot"] : List Str)->∀ C,PySem.W.nsIn K mainGlobals x=some (some (.ref C))->PySem.W.kitOne K (.ref C) (.ref D)=some ((["Even"] : List Str).contains x)
section
variable {P : Program} {w : World} {K : PySem.W.Frag} {mg : Str->Option Value} {base : Heap} {cl : Nat->Value}
theorem z9b : FnScope y1h z4y (z0b z2a):=⟨rfl,rfl,rfl,by decide +kernel,rfl,by decide +kernel,by decide +kernel⟩
theorem z8Y {f : Addr} {fd : FuncData} (F : Fun K "is_thing" "is_thing" z2a f fd) (hm : mg "is_thing" = some (.ref f)) (hb : Binds K fd z4y []) (T : Txt mg) : DefOk P w K mg base 1 "is_thing" (spN K z1Z):=
  z4T (k:=0) (g:=z4w) F hm hb z9b rfl rfl fun cdv A outer s H E hr=>
    (z0h (z0G (z8l (y0v rfl T.b_int rfl T.b_isinstance (z0g 0 (pv 0))) (z8l (y9d (z8c rfl T.b_bool rfl T.b_isinstance (z0g 0 (pv 0)))) (z9G (y6J op_le op_lt z3X z3X z0e (z0g 0 (pv 0)) (z0g 1 (pv 1))))))))
theorem sc_tells_each_once : FnScope z4h z1z (z0b z0B):=⟨rfl,rfl,rfl,by decide +kernel,rfl,by decide +kernel,by decide +kernel⟩
theorem z3U {f : Addr} {fd : FuncData} (F : Fun K "tells_each_once" "tells_each_once" z0B f fd) (hm : mg "tells_each_once" = some (.ref f)) (hb : Binds K fd z1z []) (T : Txt mg) (G_is_thing : DefOk P w K mg base 1 "is_thing" (spN K z1Z)) : DefOk P w K mg base 2 "tells_each_once" (spN K z0w):=
  z4T (k:=1) (g:=z1c) F hm hb sc_tells_each_once rfl rfl fun cdv A outer s H E hr=>
    (z0f (z5V (z7e hr.units (z2n rfl T.b_len (z0g 0 (pv 0))) (z0g 1 (pv 1))) (z0h (z0G z4D)) z1y)
      (z0f (z0Y (z0M (i:=2) sc_tells_each_once.nd rfl (Or.inl rfl) pn_dnew))
      (z0f (z4F PassesOwn.never rfl (z0I (z0g 0 (pv 0))) (z0v (i:=3) sc_tells_each_once.nd rfl (Or.inl rfl)) (z0f (z5V (PW.pt (z5t (z2T (z1b (z4k (z0l G_is_thing (hr.mono (by decide)) rfl (z0a (z0g 3 (pv 3)) (z0a (z0g 1 (pv 1)) z0c)))))) (z5i (pt_din hr.units (z0g 3 (pv 3)) (z0g 2 (pv 2)))))) (z0h (z0G z4D)) z1y)
      (z0h (s_dput hr.units (pv 2) (z0g 3 (pv 3)) z4D))))
      (z0h (z0G z4D)))))
theorem y1D : FnScope y5S z6X (z0b z3n):=⟨rfl,rfl,rfl,by decide +kernel,rfl,by decide +kernel,by decide +kernel⟩
theorem y4c {f : Addr} {fd : FuncData} (F : Fun K "voices" "voices" z3n f fd) (hm : mg "voices" = some (.ref f)) (hb : Binds K fd z6X []) (T : Txt mg) : DefOk P w K mg base 1 "voices" (spN K z3Z):=
  z4T (k:=0) (g:=z7j) F hm hb y1D rfl rfl fun cdv A outer s H E hr=>
    (z0h (z0G (y7X rfl rfl T.b_sum (z4B (z5w (N':=["votes", "ballot"])  rfl ⟨rfl,rfl,rfl,rfl,rfl⟩ (n:=1) rfl (z0I (z0g 0 (pv 0))) (fun _ _ _ _ _=>z0v (i:=1) nd0 rfl (Or.inl rfl)) (fun _ _ _ _ _=>z1O) (fun _ _ _ _ _=>(z0K (z0g 1 (pv 1)) z0e)))))))
theorem sc_asked : FnScope N_asked z6F (z0b z4f):=⟨rfl,rfl,rfl,by decide +kernel,rfl,by decide +kernel,by decide +kernel⟩
theorem y5N {f : Addr} {fd : FuncData} (F : Fun K "asked" "asked" z4f f fd) (hm : mg "asked" = some (.ref f)) (hb : Binds K fd z6F []) (T : Txt mg) (Z : Cls K mg base cl) (G_tells_each_once : DefOk P w K mg base 2 "tells_each_once" (spN K z0w)) (G_voices : DefOk P w K mg base 1 "voices" (spN K z3Z)) : DefX P w K mg base 3 "asked" (spX K cl z2Z):=by
  obtain ⟨C_BadBallot,hc_BadBallot,O_BadBallot,nn_BadBallot,xb_BadBallot⟩:=Z.o_BadBallot
  obtain ⟨C_Even,hc_Even,O_Even,nn_Even,xb_Even⟩:=Z.o_Even
  exact ⟨f,fd,z6F,hm,F.kp,hb,fnX (k:=2) (g:=z5m) F sc_asked rfl rfl fun cdv A outer s H E hr=>
    (z0f (z4F PassesOwn.leaving rfl (z0I (z0g 0 (pv 0))) (z0v (i:=2) sc_asked.nd rfl (Or.inl rfl)) (z0h (z5V (z2T (z1b (z4k (z0l G_tells_each_once (hr.mono (by decide)) rfl (z0a (z0K (z0g 2 (pv 2)) z0e) (z0a (z0g 1 (pv 1)) z0c)))))) (z0h (z9p (c:=1) rfl rfl O_BadBallot (z9j hc_BadBallot) z1i)) z1y)))
      (z0h (z5V (z6Y hr.units (z3l (z4k (z0l G_voices (hr.mono (by decide)) rfl (z0a (z0g 0 (pv 0)) z0c))) z0e) z0e) (z0h (z9p (c:=2) rfl rfl O_Even (z9j hc_Even) z1i)) z1y)))⟩
theorem z6K : FnScope z7P z2W (z0b z1r):=⟨rfl,rfl,rfl,by decide +kernel,rfl,by decide +kernel,by decide +kernel⟩
theorem z6U {f : Addr} {fd : FuncData} (F : Fun K "puts_ahead" "puts_ahead" z1r f fd) (hm : mg "puts_ahead" = some (.ref f)) (hb : Binds K fd z2W []) (T : Txt mg) : DefOk P w K mg base 1 "puts_ahead" (spN K z2k):=
  z4T (k:=0) (g:=z4C) F hm hb z6K rfl rfl fun cdv A outer s H E hr=>
    (z0h (z0G (pd_lt (z8f (z0g 0 (pv 0)) (z0g 1 (pv 1))) (z8f (z0g 0 (pv 0)) (z0g 2 (pv 2))))))
theorem sc_are_side_by_side : FnScope z3T z1x (z0b z0y):=⟨rfl,rfl,rfl,by decide +kernel,rfl,by decide +kernel,by decide +kernel⟩
theorem z3A {f : Addr} {fd : FuncData} (F : Fun K "are_side_by_side" "are_side_by_side" z0y f fd) (hm : mg "are_side_by_side" = some (.ref f)) (hb : Binds K fd z1x []) (T : Txt mg) : DefOk P w K mg base 1 "are_side_by_side" (spN K z0H):=
  z4T (k:=0) (g:=z1v) F hm hb sc_are_side_by_side rfl rfl fun cdv A outer s H E hr=>
    (z0f (z0Y (PAsg.imp (y1s (i:=2) (N':=["things", "line", "places", "thing"]) sc_are_side_by_side.nd rfl rfl rfl ⟨rfl,rfl,rfl,rfl,rfl⟩ (n:=3) rfl (z0I (z0g 0 (pv 0))) (fun _ _ _ _ _=>z0v (i:=3) nd1 rfl (Or.inl rfl)) (fun _ _ _ _ _=>z1O) (fun _ _ _ _ _=>(z5h (z0g 1 (pv 1)) (z0g 3 (pv 3))))) iNF))
      (z0h (z0G (y5c hr.units (z6b (pd_maxL rfl rfl T.b_max (z0g 2 (pv 2))) (pd_minL rfl rfl T.b_min (z0g 2 (pv 2)))) (z6b (z2n rfl T.b_len (z0g 0 (pv 0))) z0e)))))
theorem y0Y : FnScope y4g z5d (z0b z2A):=⟨rfl,rfl,rfl,by decide +kernel,rfl,by decide +kernel,by decide +kernel⟩
theorem y1f {f : Addr} {fd : FuncData} (F : Fun K "lies_on" "lies_on" z2A f fd) (hm : mg "lies_on" = some (.ref f)) (hb : Binds K fd z5d []) (T : Txt mg) (G_are_side_by_side : DefOk P w K mg base 1 "are_side_by_side" (spN K z0H)) : DefOk P w K mg base 2 "lies_on" (spN K z3m):=
  z4T (k:=1) (g:=z4W) F hm hb y0Y rfl rfl fun cdv A outer s H E hr=>
    (z0h (z0G (y7z rfl rfl T.b_all (z4k (z5F (N':=["order", "line", "count"])  rfl ⟨rfl,rfl,rfl,rfl,rfl⟩ (n:=2) rfl (pi_rng2 rfl T.b_range z0e (z2E (z2n rfl T.b_len (z0g 0 (pv 0))) z0e)) (fun _ _ _ _ _=>z0v (i:=2) nd2 rfl (Or.inl rfl)) (fun _ _ _ _ _=>z1O) (fun _ _ _ _ _=>(z0l G_are_side_by_side (hr.mono (by decide)) rfl (z0a (z4V (z0g 0 (pv 0)) z1W (z1d (z0g 2 (pv 2)))) (z0a (z0g 1 (pv 1)) z0c)))))))))
theorem sc_lines_for : FnScope z8L z3D (z0b z1D):=⟨rfl,rfl,rfl,by decide +kernel,rfl,by decide +kernel,by decide +kernel⟩
theorem z7v {f : Addr} {fd : FuncData} (F : Fun K "lines_for" "lines_for" z1D f fd) (hm : mg "lines_for" = some (.ref f)) (hb : Binds K fd z3D []) (T : Txt mg) : DefOk P w K mg base 1 "lines_for" (spR K z2b):=
  defR (k:=0) (g:=z3H) F hm hb sc_lines_for rfl rfl fun cdv A outer s H E B hr=>
    (z0f (z7D (z0M (i:=1) sc_lines_for.nd rfl (Or.inl rfl) (z4k (y4O (z4b (z5O (z0X (z0a (z0K (z0g 0 (pv 0)) z0e) z0c))) y4X)))))
      (z0f (z4F PassesOwn.never rfl (z0I (z4V (z0g 0 (pv 0)) (z1d z0e) z1W)) (z0v (i:=2) sc_lines_for.nd rfl (Or.inr rfl)) (z0h (z7D (z0M (i:=1) sc_lines_for.nd rfl (Or.inl rfl) (z4B (z3x (z4k (z5F (N':=["order", "lines", "thing", "line"])  rfl ⟨rfl,rfl,rfl,rfl,rfl⟩ (n:=3) rfl (z0I (z0g 1 (pv 1))) (fun _ _ _ _ _=>z0v (i:=3) nd3 rfl (Or.inl rfl)) (fun _ _ _ _ _=>z1O) (fun _ _ _ _ _=>(z5O (z3x (z4B (z0X (z0a (z0g 2 (pv 2)) z0c))) (z0g 3 (pv 3))))))) (z4k (z5F (N':=["order", "lines", "thing", "line"])  rfl ⟨rfl,rfl,rfl,rfl,rfl⟩ (n:=3) rfl (z0I (z0g 1 (pv 1))) (fun _ _ _ _ _=>z0v (i:=3) nd3 rfl (Or.inl rfl)) (fun _ _ _ _ _=>z1O) (fun _ _ _ _ _=>(z5O (z3x (z0g 3 (pv 3)) (z4B (z0X (z0a (z0g 2 (pv 2)) z0c))))))))))))))
      (z0h (y4r (z0g 1 (pv 1))))))
theorem sc_with_one_more : FnScope z5E z2d (z0b z0O):=⟨rfl,rfl,rfl,by decide +kernel,rfl,by decide +kernel,by decide +kernel⟩
theorem z4E {f : Addr} {fd : FuncData} (F : Fun K "with_one_more" "with_one_more" z0O f fd) (hm : mg "with_one_more" = some (.ref f)) (hb : Binds K fd z2d []) (T : Txt mg) : DefOk P w K mg base 1 "with_one_more" (spN K z1t):=
  z4T (k:=0) (g:=z2U) F hm hb sc_with_one_more rfl rfl fun cdv A outer s H E hr=>
    (z0f (z0Y (z0M (i:=2) sc_with_one_more.nd rfl (Or.inl rfl) (z5O (z0X z0c))))
      (z0f (z4F PassesOwn.never rfl (z0I (z0g 0 (pv 0))) (z0v (i:=3) sc_with_one_more.nd rfl (Or.inr rfl)) (z0h (y2r (pv 2) (z5O (z5w (N':=["found", "many", "longer", "things", "thing"])  rfl ⟨rfl,rfl,rfl,rfl,rfl⟩ (n:=4) rfl (z8Z rfl T.b_range (z0g 1 (pv 1))) (fun _ _ _ _ _=>z0v (i:=4) nd4 rfl (Or.inl rfl)) (fun _ _ _ _ _=>z2D (pt_nin hr.units (z0g 4 (pv 4)) (z0g 3 (pv 3)))) (fun _ _ _ _ _=>(pd_catT (z0g 3 (pv 3)) (z2o (z0a (z0g 4 (pv 4)) z0c)))))))))
      (z0h (z7A (pv 2)))))
theorem sc_picks : FnScope N_picks z8C (z0b z4q):=⟨rfl,rfl,rfl,by decide +kernel,rfl,by decide +kernel,by decide +kernel⟩
theorem y6v {f : Addr} {fd : FuncData} (F : Fun K "picks" "picks" z4q f fd) (hm : mg "picks" = some (.ref f)) (hb : Binds K fd z8C []) (T : Txt mg) (G_with_one_more : DefOk P w K mg base 1 "with_one_more" (spN K z1t)) : DefOk P w K mg base 2 "picks" (spN K z5b):=
  z4T (k:=1) (g:=y2O) F hm hb sc_picks rfl rfl fun cdv A outer s H E hr=>
    (z0f (z0Y (z0M (i:=2) sc_picks.nd rfl (Or.inl rfl) (z5O (z0X (z0a (z2o z0c) z0c)))))
      (z0f (z4F PassesOwn.never rfl (z8Z rfl T.b_range (z0g 0 (pv 0))) (z0v (i:=3) sc_picks.nd rfl (Or.inl rfl)) (z0h (z0Y (z0M (i:=2) sc_picks.nd rfl (Or.inl rfl) (z0l G_with_one_more (hr.mono (by decide)) rfl (z0a (z0g 2 (pv 2)) (z0a (z0g 1 (pv 1)) z0c)))))))
      (z0h (z7A (pv 2)))))
theorem z3W : FnScope z4g z1A (z0b z0A):=⟨rfl,rfl,rfl,by decide +kernel,rfl,by decide +kernel,by decide +kernel⟩
theorem z3Q {f : Addr} {fd : FuncData} (F : Fun K "pairs_with_last" "pairs_with_last" z0A f fd) (hm : mg "pairs_with_last" = some (.ref f)) (hb : Binds K fd z1A []) (T : Txt mg) : DefOk P w K mg base 1 "pairs_with_last" (spN K z1e):=
  z4T (k:=0) (g:=z2C) F hm hb z3W rfl rfl fun cdv A outer s H E hr=>
    (z0h (z9L (z5O (z5w (N':=["things", "last", "thing"])  rfl ⟨rfl,rfl,rfl,rfl,rfl⟩ (n:=2) rfl (z0I (z0g 0 (pv 0))) (fun _ _ _ _ _=>z0v (i:=2) nd5 rfl (Or.inl rfl)) (fun _ _ _ _ _=>z2D (z7e hr.units (z0g 2 (pv 2)) (z0g 1 (pv 1)))) (fun _ _ _ _ _=>(z2o (z0a (z0g 2 (pv 2)) (z0a (z0g 1 (pv 1)) z0c))))))))
theorem z3k : FnScope z3v z1g (z0b z0u):=⟨rfl,rfl,rfl,by decide +kernel,rfl,by decide +kernel,by decide +kernel⟩
theorem z3c {f : Addr} {fd : FuncData} (F : Fun K "pairs_with_between" "pairs_with_between" z0u f fd) (hm : mg "pairs_with_between" = some (.ref f)) (hb : Binds K fd z1g []) (T : Txt mg) : DefOk P w K mg base 1 "pairs_with_between" (spN K z0z):=
  z4T (k:=0) (g:=z1V) F hm hb z3k rfl rfl fun cdv A outer s H E hr=>
    (z0h (z9L (z5O (z0X (z0a (z2o (z0a (z0g 0 (pv 0)) (z0a (z0g 1 (pv 1)) z0c))) (z0a (z2o (z0a (z0g 1 (pv 1)) (z0a (z0g 2 (pv 2)) z0c))) (z0a (z2o (z0a (z0g 3 (pv 3)) (z0a (z0g 1 (pv 1)) z0c))) z0c)))))))
theorem sc_wanted_of : FnScope z8E z3C (z0b z1F):=⟨rfl,rfl,rfl,by decide +kernel,rfl,by decide +kernel,by decide +kernel⟩
theorem z8b {f : Addr} {fd : FuncData} (F : Fun K "wanted_of" "wanted_of" z1F f fd) (hm : mg "wanted_of" = some (.ref f)) (hb : Binds K fd z3C []) (T : Txt mg) (G_pairs_with_last : DefOk P w K mg base 1 "pairs_with_last" (spN K z1e)) (G_pairs_with_between : DefOk P w K mg base 1 "pairs_with_between" (spN K z0z)) : DefOk P w K mg base 2 "wanted_of" (spN K z2I):=
  z4T (k:=1) (g:=z5G) F hm hb sc_wanted_of rfl rfl fun cdv A outer s H E hr=>
    (z0f (z5V (z6Y hr.units (z0g 0 (pv 0)) z1i) (z0h (z9L (z5F (N':=["kind", "things", "first", "second", "last"])  rfl ⟨rfl,rfl,rfl,rfl,rfl⟩ (n:=4) rfl (z0I (z0g 1 (pv 1))) (fun _ _ _ _ _=>z0v (i:=4) nd6 rfl (Or.inl rfl)) (fun _ _ _ _ _=>z1O) (fun _ _ _ _ _=>(z0l G_pairs_with_last (hr.mono (by decide)) rfl (z0a (z0g 1 (pv 1)) (z0a (z0g 4 (pv 4)) z0c))))))) z1y)
      (z0f (z0Y (z0M (i:=2) sc_wanted_of.nd rfl (Or.inl rfl) (z0l G_pairs_with_between (hr.mono (by decide)) rfl (z0a (z0K (z0g 1 (pv 1)) z0e) (z0a (z0K (z0g 1 (pv 1)) z0e) (z0a (z0K (z0g 1 (pv 1)) z0e) (z0a (z0K (z0g 1 (pv 1)) z0e) z0c)))))))
      (z0f (z0Y (z0M (i:=3) sc_wanted_of.nd rfl (Or.inl rfl) (z0l G_pairs_with_between (hr.mono (by decide)) rfl (z0a (z0K (z0g 1 (pv 1)) z0e) (z0a (z0K (z0g 1 (pv 1)) z0e) (z0a (z0K (z0g 1 (pv 1)) z0e) (z0a (z0K (z0g 1 (pv 1)) z0e) z0c)))))))
      (z0h (s_ret2 (by decide) (pv 2) (pv 3))))))
theorem z4n : FnScope z4I z1U (z0b z0F):=⟨rfl,rfl,rfl,by decide +kernel,rfl,by decide +kernel,by decide +kernel⟩
theorem z4m {f : Addr} {fd : FuncData} (F : Fun K "puts_all_ahead" "puts_all_ahead" z0F f fd) (hm : mg "puts_all_ahead" = some (.ref f)) (hb : Binds K fd z1U []) (T : Txt mg) (G_puts_ahead : DefOk P w K mg base 1 "puts_ahead" (spN K z2k)) : DefOk P w K mg base 2 "puts_all_ahead" (spN K z1m):=
  z4T (k:=1) (g:=z2P) F hm hb z4n rfl rfl fun cdv A outer s H E hr=>
    (z0h (z0G (y7z rfl rfl T.b_all (z4k (z5F (N':=["order", "pairs", "pair"])  rfl ⟨rfl,rfl,rfl,rfl,rfl⟩ (n:=2) rfl (z0I (z0g 1 (pv 1))) (fun _ _ _ _ _=>z0v (i:=2) nd7 rfl (Or.inl rfl)) (fun _ _ _ _ _=>z1O) (fun _ _ _ _ _=>(z0l G_puts_ahead (hr.mono (by decide)) rfl (z0a (z0g 0 (pv 0)) (z0a (z0K (z0g 2 (pv 2)) z0e) (z0a (z0K (z0g 2 (pv 2)) z0e) z0c))))))))))
theorem sc_first_places : FnScope z5T z2x (z0b z0V):=⟨rfl,rfl,rfl,by decide +kernel,rfl,by decide +kernel,by decide +kernel⟩
theorem z5B {f : Addr} {fd : FuncData} (F : Fun K "first_places" "first_places" z0V f fd) (hm : mg "first_places" = some (.ref f)) (hb : Binds K fd z2x []) (T : Txt mg) (G_puts_all_ahead : DefOk P w K mg base 2 "puts_all_ahead" (spN K z1m)) : DefOk P w K mg base 3 "first_places" (spN K z1L):=
  z4T (k:=2) (g:=z3z) F hm hb sc_first_places rfl rfl fun cdv A outer s H E hr=>
    (z0f (z0Y (z0M (i:=2) sc_first_places.nd rfl (Or.inl rfl) (z5O (z0X z0c))))
      (z0f (z4F PassesOwn.never rfl (z0I (z0g 1 (pv 1))) (z0v (i:=3) sc_first_places.nd rfl (Or.inr rfl)) (z0f (z0Y (PAsg.imp (pas_cF2 (i:=4) (N':=["votes", "wanted", "places", "pairs", "found", "place", "ballot"]) sc_first_places.nd rfl rfl rfl ⟨rfl,rfl,rfl,rfl,rfl⟩ (n:=5) rfl (y6G rfl T.b_enumerate (z0g 0 (pv 0))) (fun _ _ _ _ _=>pg_two rfl (z0v (i:=5) nd8 rfl (Or.inl rfl)) (z0v (i:=6) nd8 rfl (Or.inl rfl))) (fun _ _ _ _ _=>z2D (z1b (z4k (z0l G_puts_all_ahead (hr.mono (by decide)) rfl (z0a (z0K (z0g 6 (pv 6)) z0e) (z0a (z0g 3 (pv 3)) z0c)))))) (fun _ _ _ _ _=>(z0g 5 (pv 5)))) iNF))
      (z0f (z5V (z2T (z1b (z0g 4 (pv 4)))) (z0h (z0G y7P)) z1y)
      (z0h (s_m0 PySem.F.slot_list_append PySem.F.type_list_append z2f z2R (pv 2) (z0a (z0K (z0g 4 (pv 4)) z0e) z0c))))))
      (z0h (z0G (z4R rfl T.b_tuple (z0g 2 (pv 2)))))))
theorem sc_bar_among : FnScope z9d z3F (z0b z1E):=⟨rfl,rfl,rfl,by decide +kernel,rfl,by decide +kernel,by decide +kernel⟩
theorem z8o {f : Addr} {fd : FuncData} (F : Fun K "bar_among" "bar_among" z1E f fd) (hm : mg "bar_among" = some (.ref f)) (hb : Binds K fd z3F []) (T : Txt mg) (G_wanted_of : DefOk P w K mg base 2 "wanted_of" (spN K z2I)) (G_first_places : DefOk P w K mg base 3 "first_places" (spN K z1L)) : DefOk P w K mg base 4 "bar_among" (spN K z2j):=
  z4T (k:=3) (g:=z5M) F hm hb sc_bar_among rfl rfl fun cdv A outer s H E hr=>
    (z0f (z4F PassesOwn.never rfl (z0I (z0g 2 (pv 2))) (z0v (i:=3) sc_bar_among.nd rfl (Or.inl rfl)) (z0f (z0Y (z0M (i:=4) sc_bar_among.nd rfl (Or.inl rfl) (z0l G_first_places (hr.mono (by decide)) rfl (z0a (z0g 0 (pv 0)) (z0a (z4k (z0l G_wanted_of (hr.mono (by decide)) rfl (z0a (z0g 1 (pv 1)) (z0a (z0g 3 (pv 3)) z0c)))) z0c)))))
      (z0h (z5V (z6c (z0g 4 (pv 4))) (z0h (z0G (z2o (z0a (z0g 1 (pv 1)) (z0a (z0g 3 (pv 3)) (z0a (z0g 4 (pv 4)) z0c)))))) z1y))))
      (z0h (z0G y7P)))
theorem sc_bar_of : FnScope y7a z7d (z0b z3p):=⟨rfl,rfl,rfl,by decide +kernel,rfl,by decide +kernel,by decide +kernel⟩
theorem y4N {f : Addr} {fd : FuncData} (F : Fun K "bar_of" "bar_of" z3p f fd) (hm : mg "bar_of" = some (.ref f)) (hb : Binds K fd z7d []) (T : Txt mg) (G_picks : DefOk P w K mg base 2 "picks" (spN K z5b)) (G_bar_among : DefOk P w K mg base 4 "bar_among" (spN K z2j)) : DefOk P w K mg base 5 "bar_of" (spN K z4Q):=
  z4T (k:=4) (g:=z9S) F hm hb sc_bar_of rfl rfl fun cdv A outer s H E hr=>
    (z0f (z0Y (PAsg.imp (y1s (i:=2) (N':=["votes", "many", "rising", "lasts", "things"]) sc_bar_of.nd rfl rfl rfl ⟨rfl,rfl,rfl,rfl,rfl⟩ (n:=4) rfl (z0I (z4k (z0l G_picks (hr.mono (by decide)) rfl (z0a z0e (z0a (z0g 1 (pv 1)) z0c))))) (fun _ _ _ _ _=>z0v (i:=4) nd9 rfl (Or.inl rfl)) (fun _ _ _ _ _=>z2D (z6Y hr.units (z4B (z3S rfl T.b_list (z0g 4 (pv 4)))) (z4B (z7L rfl T.b_sorted (z0g 4 (pv 4)))))) (fun _ _ _ _ _=>(z0g 4 (pv 4)))) iNF))
      (z0f (z0Y (z0M (i:=3) sc_bar_of.nd rfl (Or.inl rfl) (z0l G_bar_among (hr.mono (by decide)) rfl (z0a (z0g 0 (pv 0)) (z0a z1i (z0a (z0g 2 (pv 2)) z0c))))))
      (z0f (z5V (z6c (z0g 3 (pv 3))) (z0h (z0G (z0g 3 (pv 3)))) z1y)
      (z0h (z9L (z0l G_bar_among (hr.mono (by decide)) rfl (z0a (z0g 0 (pv 0)) (z0a z1i (z0a (z4k (z0l G_picks (hr.mono (by decide)) rfl (z0a z0e (z0a (z0g 1 (pv 1)) z0c)))) z0c)))))))))
theorem sc_line_of : FnScope y2d z4a (z0b z2B):=⟨rfl,rfl,rfl,by decide +kernel,rfl,by decide +kernel,by decide +kernel⟩
theorem y0W {f : Addr} {fd : FuncData} (F : Fun K "line_of" "line_of" z2B f fd) (hm : mg "line_of" = some (.ref f)) (hb : Binds K fd z4a []) (T : Txt mg) (Z : Cls K mg base cl) (G_asked : DefX P w K mg base 3 "asked" (spX K cl z2Z)) (G_lies_on : DefOk P w K mg base 2 "lies_on" (spN K z3m)) (G_lines_for : DefOk P w K mg base 1 "lines_for" (spR K z2b)) (G_bar_of : DefOk P w K mg base 5 "bar_of" (spN K z4Q)) : DefX P w K mg base 6 "line_of" (spXS K cl z1a):=by
  exact ⟨f,fd,z4a,hm,F.kp,hb,fnXS (k:=5) (g:=z3a) F sc_line_of rfl rfl fun cdv A outer s H E B hr=>
    (z0f (s_exprX (px_call G_asked (hr.mono (by decide)) rfl xw_def (z0a (z0g 0 (pv 0)) (z0a (z0g 1 (pv 1)) z0c))))
      (z0f (z7D (z0M (i:=2) sc_line_of.nd rfl (Or.inl rfl) (y6k G_lines_for (hr.mono (by decide)) rfl (z0a (z0K (z0K (z0g 0 (pv 0)) z0e) z0e) z0c))))
      (z0f (z4F PassesOwn.leaving rfl (z0I (z4B (z2p (z0g 0 (pv 0)) (z1d z0e) z1W))) (z0v (i:=3) sc_line_of.nd rfl (Or.inr rfl)) (z0h (z7D (PAsg.imp (y1s (i:=2) (N':=["votes", "many", "lines", "ballot", "line"]) sc_line_of.nd rfl rfl rfl ⟨rfl,rfl,rfl,rfl,rfl⟩ (n:=4) rfl (z0I (z0g 2 (pv 2))) (fun _ _ _ _ _=>z0v (i:=4) nd10 rfl (Or.inl rfl)) (fun _ _ _ _ _=>z2D (z1b (z4k (z0l G_lies_on (hr.mono (by decide)) rfl (z0a (z0K (z0g 3 (pv 3)) z0e) (z0a (z0g 4 (pv 4)) z0c)))))) (fun _ _ _ _ _=>(z0g 4 (pv 4)))) iDF))))
      (z0f (z5V (z1b (z0g 2 (pv 2))) (z0h (y4r (z2o (z0a z1i (z0a (z0K (z0g 2 (pv 2)) z0e) z0c))))) z1y)
      (z0h (y4r (z4k (z0l G_bar_of (hr.mono (by decide)) rfl (z0a (z0g 0 (pv 0)) (z0a (z0g 1 (pv 1)) z0c))))))))))⟩
theorem z5y : FnScope z5R z2z (z0b z0U):=⟨rfl,rfl,rfl,by decide +kernel,rfl,by decide +kernel,by decide +kernel⟩
theorem z5x {f : Addr} {fd : FuncData} (F : Fun K "_law_cell_at" "_law_cell_at" z0U f fd) (hm : mg "_law_cell_at" = some (.ref f)) (hb : Binds K fd z2z []) (T : Txt mg) : DefOk P w K mg base 1 "_law_cell_at" (spN K z0q):=
  z4T (k:=0) (g:=z1K) F hm hb z5y rfl rfl fun cdv A outer s H E hr=>
    (z0f (z5V (pt_lt (z0g 1 (pv 1)) (z2n rfl T.b_len (z0g 0 (pv 0)))) (z0h (z0G (z0K (z0g 0 (pv 0)) (z0g 1 (pv 1))))) z1y)
      (z0h (z0G z0e)))
theorem z7k : FnScope z7x z3b (z0b z1s):=⟨rfl,rfl,rfl,by decide +kernel,rfl,by decide +kernel,by decide +kernel⟩
theorem z6Q {f : Addr} {fd : FuncData} (F : Fun K "_law_whole" "_law_whole" z1s f fd) (hm : mg "_law_whole" = some (.ref f)) (hb : Binds K fd z3b []) (T : Txt mg) : DefOk P w K mg base 1 "_law_whole" (spN K z1Q):=
  z4T (k:=0) (g:=z3h) F hm hb z7k rfl rfl fun cdv A outer s H E hr=>
    (z0h (z0G (z8l (y0v rfl T.b_int rfl T.b_isinstance (z0g 0 (pv 0))) (z9G (y9d (z8c rfl T.b_bool rfl T.b_isinstance (z0g 0 (pv 0))))))))
theorem sc__law_order : FnScope z7Q z3j (z0b z1p):=⟨rfl,rfl,rfl,by decide +kernel,rfl,by decide +kernel,by decide +kernel⟩
theorem z6W {f : Addr} {fd : FuncData} (F : Fun K "_law_order" "_law_order" z1p f fd) (hm : mg "_law_order" = some (.ref f)) (hb : Binds K fd z3j []) (T : Txt mg) : DefOk P w K mg base 1 "_law_order" (spN K z1P):=
  z4T (k:=0) (g:=z2X) F hm hb sc__law_order rfl rfl fun cdv A outer s H E hr=>
    (z0f (z0Y (z0M (i:=2) sc__law_order.nd rfl (Or.inl rfl) (z5O (z0X z0c))))
      (z0f (z4F PassesOwn.never rfl (z8Z rfl T.b_range (z0g 1 (pv 1))) (z0v (i:=3) sc__law_order.nd rfl (Or.inl rfl)) (z0f (s_m0 PySem.F.slot_list_insert PySem.F.type_list_insert y2C y5g (pv 2) (z0a (z3l (z0g 0 (pv 0)) (z2E (z0g 3 (pv 3)) z0e)) (z0a (z0g 3 (pv 3)) z0c)))
      (z0h (z1R (z0M (i:=0) sc__law_order.nd rfl (Or.inl rfl) (z8s (z0g 0 (pv 0)) (z2E (z0g 3 (pv 3)) z0e)))))))
      (z0h (z7A (pv 2)))))
theorem sc__law_on_line : FnScope z5Q z2s (z0b z0T):=⟨rfl,rfl,rfl,by decide +kernel,rfl,by decide +kernel,by decide +kernel⟩
theorem z4U {f : Addr} {fd : FuncData} (F : Fun K "_law_on_line" "_law_on_line" z0T f fd) (hm : mg "_law_on_line" = some (.ref f)) (hb : Binds K fd z2s []) (T : Txt mg) : DefOk P w K mg base 1 "_law_on_line" (spN K z1h):=
  z4T (k:=0) (g:=z2u) F hm hb sc__law_on_line rfl rfl fun cdv A outer s H E hr=>
    (z0f (z1R (z0M (i:=2) sc__law_on_line.nd rfl (Or.inl rfl) (z3l (z0g 0 (pv 0)) (z2n rfl T.b_len (z0g 1 (pv 1))))))
      (z0f (z1R (z0M (i:=3) sc__law_on_line.nd rfl (Or.inl rfl) (z2E (z0g 2 (pv 2)) z0e)))
      (z0f (z0Y (z0M (i:=4) sc__law_on_line.nd rfl (Or.inl rfl) (z5O (z0X (z0a (z0K (z0g 1 (pv 1)) (z0g 2 (pv 2))) z0c)))))
      (z0f (z1R (z0M (i:=0) sc__law_on_line.nd rfl (Or.inl rfl) (z8s (z0g 0 (pv 0)) (z2n rfl T.b_len (z0g 1 (pv 1))))))
      (z0f (s_while 100 PassesOwn.never (pt_lt (z2n rfl T.b_len (z0g 4 (pv 4))) (z2n rfl T.b_len (z0g 1 (pv 1)))) (z0f (z5V (PW.pt (z5t (z6Y hr.units (z0g 3 (pv 3)) (z2n rfl T.b_len (z0g 1 (pv 1)))) (z5i (PW.pt (pw_andD (pt_gt (z0g 2 (pv 2)) z0e) (y6h (z6Y hr.units (z3l (z0g 0 (pv 0)) z0e) z0e))))))) (z0f (z1R (z0M (i:=2) sc__law_on_line.nd rfl (Or.inl rfl) (z6b (z0g 2 (pv 2)) z0e)))
      (z0h (s_m0 PySem.F.slot_list_append PySem.F.type_list_append z2f z2R (pv 4) (z0a (z0K (z0g 1 (pv 1)) (z0g 2 (pv 2))) z0c)))) (z0f (s_m0 PySem.F.slot_list_append PySem.F.type_list_append z2f z2R (pv 4) (z0a (z0K (z0g 1 (pv 1)) (z0g 3 (pv 3))) z0c))
      (z0h (z1R (z0M (i:=3) sc__law_on_line.nd rfl (Or.inl rfl) (z2E (z0g 3 (pv 3)) z0e))))))
      (z0h (z1R (z0M (i:=0) sc__law_on_line.nd rfl (Or.inl rfl) (z8s (z0g 0 (pv 0)) z0e))))))
      (z0h (z7A (pv 4))))))))
theorem sc__law_fits : FnScope z8J z3I (z0b z1G):=⟨rfl,rfl,rfl,by decide +kernel,rfl,by decide +kernel,by decide +kernel⟩
theorem z8r {f : Addr} {fd : FuncData} (F : Fun K "_law_fits" "_law_fits" z1G f fd) (hm : mg "_law_fits" = some (.ref f)) (hb : Binds K fd z3I []) (T : Txt mg) : DefOk P w K mg base 1 "_law_fits" (spN K z1C):=
  z4T (k:=0) (g:=z3B) F hm hb sc__law_fits rfl rfl fun cdv A outer s H E hr=>
    (z0f (z1R (z0M (i:=2) sc__law_fits.nd rfl (Or.inl rfl) (z5h (z0g 1 (pv 1)) (z0K (z0g 0 (pv 0)) z0e))))
      (z0f (z1R (z0M (i:=3) sc__law_fits.nd rfl (Or.inl rfl) (z0g 2 (pv 2))))
      (z0f (z4F PassesOwn.never rfl (z0I (z4V (z0g 0 (pv 0)) (z1d z0e) z1W)) (z0v (i:=4) sc__law_fits.nd rfl (Or.inl rfl)) (z0f (z1R (z0M (i:=5) sc__law_fits.nd rfl (Or.inl rfl) (z5h (z0g 1 (pv 1)) (z0g 4 (pv 4)))))
      (z0h (z5V (z6Y hr.units (z0g 5 (pv 5)) (z6b (z0g 2 (pv 2)) z0e)) (z0h (z1R (z0M (i:=2) sc__law_fits.nd rfl (Or.inl rfl) (z0g 5 (pv 5))))) (z0h (z5V (z6Y hr.units (z0g 5 (pv 5)) (z2E (z0g 3 (pv 3)) z0e)) (z0h (z1R (z0M (i:=3) sc__law_fits.nd rfl (Or.inl rfl) (z0g 5 (pv 5))))) (z0h (z0G z4D))))))))
      (z0h (z0G z4D)))))
theorem sc__law_votes : FnScope z7U z2V (z0b z1q):=⟨rfl,rfl,rfl,by decide +kernel,rfl,by decide +kernel,by decide +kernel⟩
theorem z7l {f : Addr} {fd : FuncData} (F : Fun K "_law_votes" "_law_votes" z1q f fd) (hm : mg "_law_votes" = some (.ref f)) (hb : Binds K fd z2V []) (T : Txt mg) (G__law_cell_at : DefOk P w K mg base 1 "_law_cell_at" (spN K z0q)) (G__law_on_line : DefOk P w K mg base 1 "_law_on_line" (spN K z1h)) : DefOk P w K mg base 2 "_law_votes" (spN K z1S):=
  z4T (k:=1) (g:=z2Y) F hm hb sc__law_votes rfl rfl fun cdv A outer s H E hr=>
    (z0f (z0Y (z0M (i:=3) sc__law_votes.nd rfl (Or.inl rfl) (z5O (z0X z0c))))
      (z0f (z4F PassesOwn.never rfl (z0I (z4B (z2p (z0g 0 (pv 0)) (z1d z0e) (z1d z0e)))) (z0v (i:=4) sc__law_votes.nd rfl (Or.inl rfl)) (z0h (s_m0 PySem.F.slot_list_append PySem.F.type_list_append z2f z2R (pv 3) (z0a (z2o (z0a (z2E z0e (z3l (z8s (z0g 4 (pv 4)) z0e) (z6b (y8z z0e z0e) z0e))) (z0a (z4R rfl T.b_tuple (z4k (z0l G__law_on_line (hr.mono (by decide)) rfl (z0a (z3l (z0g 4 (pv 4)) z0e) (z0a (z0g 2 (pv 2)) z0c))))) z0c))) z0c))))
      (z0f (z5V (z6Y hr.units (z2n rfl T.b_len (z0g 3 (pv 3))) z0e) (z0h (s_m0 PySem.F.slot_list_append PySem.F.type_list_append z2f z2R (pv 3) (z0a (z2o (z0a (z2E z0e (z3l (z4k (z0l G__law_cell_at (hr.mono (by decide)) rfl (z0a (z0g 0 (pv 0)) (z0a z0e z0c)))) (z6b (y8z z0e z0e) z0e))) (z0a (z4R rfl T.b_tuple (z0g 2 (pv 2))) z0c))) z0c))) z1y)
      (z0f (z5V (z6Y hr.units (z3l (y7X rfl rfl T.b_sum (z4B (z5w (N':=["script", "many", "line", "votes", "cell", "ballot"])  rfl ⟨rfl,rfl,rfl,rfl,rfl⟩ (n:=5) rfl (z0I (z0g 3 (pv 3))) (fun _ _ _ _ _=>z0v (i:=5) nd11 rfl (Or.inl rfl)) (fun _ _ _ _ _=>z1O) (fun _ _ _ _ _=>(z0K (z0g 5 (pv 5)) z0e))))) z0e) z0e) (z0h (s_st0 (pv 3) z0e (z2o (z0a (z2E (z0K (z0K (z0g 3 (pv 3)) z0e) z0e) z0e) (z0a (z0K (z0K (z0g 3 (pv 3)) z0e) z0e) z0c))))) z1y)
      (z0h (z7A (pv 3)))))))
theorem sc__law_line_holds : FnScope z4i z1H (z0b z0C):=⟨rfl,rfl,rfl,by decide +kernel,rfl,by decide +kernel,by decide +kernel⟩
theorem z3P {f : Addr} {fd : FuncData} (F : Fun K "_law_line_holds" "_law_line_holds" z0C f fd) (hm : mg "_law_line_holds" = some (.ref f)) (hb : Binds K fd z1H []) (T : Txt mg) (G__law_whole : DefOk P w K mg base 1 "_law_whole" (spN K z1Q)) (G__law_fits : DefOk P w K mg base 1 "_law_fits" (spN K z1C)) : DefOk P w K mg base 2 "_law_line_holds" (spN K z0N):=
  z4T (k:=1) (g:=z1B) F hm hb sc__law_line_holds rfl rfl fun cdv A outer s H E hr=>
    (z0f (z5V (PW.pt (z5t (z2T (z1b (y1G rfl T.b_list rfl T.b_isinstance (z0g 2 (pv 2))))) (z5i (z7e hr.units (z2n rfl T.b_len (z0g 2 (pv 2))) (z0g 1 (pv 1)))))) (z0h (z0G z4D)) z1y)
      (z0f (z4F PassesOwn.never rfl (z0I (z0g 2 (pv 2))) (z0v (i:=3) sc__law_line_holds.nd rfl (Or.inl rfl)) (z0h (z5V (z2T (z1b (z4k (z0l G__law_whole (hr.mono (by decide)) rfl (z0a (z0g 3 (pv 3)) z0c))))) (z0h (z0G z4D)) z1y)))
      (z0f (z5V (z7e hr.units (z4B (z7L rfl T.b_sorted (z0g 2 (pv 2)))) (z4B (y1E rfl rfl T.b_list rfl T.b_range (z0g 1 (pv 1))))) (z0h (z0G z4D)) z1y)
      (z0h (z0G (y5c hr.units (z2n rfl T.b_len (z4B (z5w (N':=["votes", "many", "line", "one", "ballot"])  rfl ⟨rfl,rfl,rfl,rfl,rfl⟩ (n:=4) rfl (z0I (z0g 0 (pv 0))) (fun _ _ _ _ _=>z0v (i:=4) nd12 rfl (Or.inl rfl)) (fun _ _ _ _ _=>z2D (z2T (z1b (z4k (z0l G__law_fits (hr.mono (by decide)) rfl (z0a (z0K (z0g 4 (pv 4)) z0e) (z0a (z0g 2 (pv 2)) z0c))))))) (fun _ _ _ _ _=>(z0g 4 (pv 4)))))) z0e))))))
theorem sc__law_refusal : FnScope z5X z2y (z0b z0R):=⟨rfl,rfl,rfl,by decide +kernel,rfl,by decide +kernel,by decide +kernel⟩
theorem z5K {f : Addr} {fd : FuncData} (F : Fun K "_law_refusal" "_law_refusal" z0R f fd) (hm : mg "_law_refusal" = some (.ref f)) (hb : Binds K fd z2y []) (T : Txt mg) (Z : Cls K mg base cl) (G_line_of : DefX P w K mg base 6 "line_of" (spXS K cl z1a)) : DefOk P w K mg base 7 "_law_refusal" (spN K z0r):=by
  obtain ⟨C_AskError,hc_AskError,O_AskError,nn_AskError,xb_AskError⟩:=Z.o_AskError
  obtain ⟨C_BadBallot,hc_BadBallot,O_BadBallot,nn_BadBallot,xb_BadBallot⟩:=Z.o_BadBallot
  obtain ⟨C_Even,hc_Even,O_Even,nn_Even,xb_Even⟩:=Z.o_Even
  exact z4T (k:=6) (g:=z1I) F hm hb sc__law_refusal rfl rfl fun cdv A outer s H E hr=>
    (z0f (z1R (z0M (i:=2) sc__law_refusal.nd rfl (Or.inl rfl) z1i))
      (z0f (s_try (gh:=(fun c=>match c with | 0=>fun _=>none | 1=>(y6M 3 "BadBallot" (z3J 2 (d2 ixD (mkL (z0j [(dC (.str "other")),(dC (.str "ballot")),(dC (.str "even")),(dC (.str "odd"))])) (d2 z6j (z0k z7E [(d1 (z8A ["BadBallot"] ["Even", "BadBallot"]) (z0d 3))]) (d2 mulI (dC (.int 2)) (z0k z7E [(d1 (z8A ["Even"] ["Even", "BadBallot"]) (z0d 3))])))))) | 2=>(y6M 3 "Even" (z3J 2 (d2 ixD (mkL (z0j [(dC (.str "other")),(dC (.str "ballot")),(dC (.str "even")),(dC (.str "odd"))])) (d2 z6j (z0k z7E [(d1 (z8A ["BadBallot"] ["Even", "BadBallot"]) (z0d 3))]) (d2 mulI (dC (.int 2)) (z0k z7E [(d1 (z8A ["Even"] ["Even", "BadBallot"]) (z0d 3))])))))) | _ + 3=>fun _=>none)) rfl rfl (fun pn xe RX' hW=>(z0h (y6W (z9k G_line_of (hr.mono (by decide)) rfl hW (z0a (z0g 0 (pv 0)) (z0a (z0g 1 (pv 1)) z0c)))))) (fun c=>match c with | 0=>z9Q (fun _=>rfl) | 1=>(by rw [hc_BadBallot]; exact y8n (i:=3) nn_BadBallot xb_BadBallot rfl O_AskError.bound (by have z:=Z.e_BadBallot_AskError _ hc_AskError; rw [hc_BadBallot] at z; exact z) sc__law_refusal.nd rfl rfl (fun _=>(z0h (z1R (z0M (i:=2) sc__law_refusal.nd rfl (Or.inl rfl) (z0K (z4B (z0X (z0a z1i (z0a z1i (z0a z1i (z0a z1i z0c)))))) (z2E (z6R rfl T.b_int (z6Z rfl O_BadBallot.bound (Z.k_BadBallot _ hc_BadBallot) rfl T.b_isinstance (z0g 3 (pv 3)))) (y9c z0e (z6R rfl T.b_int (z6Z rfl O_Even.bound (Z.k_Even _ hc_Even) rfl T.b_isinstance (z0g 3 (pv 3)))))))))))) | 2=>(by rw [hc_Even]; exact y8n (i:=3) nn_Even xb_Even rfl O_AskError.bound (by have z:=Z.e_Even_AskError _ hc_AskError; rw [hc_Even] at z; exact z) sc__law_refusal.nd rfl rfl (fun _=>(z0h (z1R (z0M (i:=2) sc__law_refusal.nd rfl (Or.inl rfl) (z0K (z4B (z0X (z0a z1i (z0a z1i (z0a z1i (z0a z1i z0c)))))) (z2E (z6R rfl T.b_int (z6Z rfl O_BadBallot.bound (Z.k_BadBallot _ hc_BadBallot) rfl T.b_isinstance (z0g 3 (pv 3)))) (y9c z0e (z6R rfl T.b_int (z6Z rfl O_Even.bound (Z.k_Even _ hc_Even) rfl T.b_isinstance (z0g 3 (pv 3)))))))))))) | _ + 3=>z9Q (fun _=>rfl)))
      (z0h (z0G (z0g 2 (pv 2))))))
theorem sc__law_refused : FnScope z5S z2v (z0b z0S):=⟨rfl,rfl,rfl,by decide +kernel,rfl,by decide +kernel,by decide +kernel⟩
theorem z5s {f : Addr} {fd : FuncData} (F : Fun K "_law_refused" "_law_refused" z0S f fd) (hm : mg "_law_refused" = some (.ref f)) (hb : Binds K fd z2v []) (T : Txt mg) (Z : Cls K mg base cl) (G__law_refusal : DefOk P w K mg base 7 "_law_refusal" (spN K z0r)) : DefOk P w K mg base 8 "_law_refused" (spN K z1j):=
  z4T (k:=7) (g:=z2t) F hm hb sc__law_refused rfl rfl fun cdv A outer s H E hr=>
    (z0f (z1R (z0M (i:=3) sc__law_refused.nd rfl (Or.inl rfl) (z3l (z0g 2 (pv 2)) (z2n rfl T.b_len (z0g 0 (pv 0))))))
      (z0f (z0Y (z0M (i:=4) sc__law_refused.nd rfl (Or.inl rfl) (z5O (z3S rfl T.b_list (z0K (z0K (z0g 0 (pv 0)) (z0g 3 (pv 3))) z0e)))))
      (z0f (z0Y (z0M (i:=5) sc__law_refused.nd rfl (Or.inl rfl) (pn_ixN (y4O (z4b (z5O (z2p (z0g 4 (pv 4)) z1W (z1d (pd_neg z0e)))) (z4b (z5O (z3x (z0g 4 (pv 4)) (z4B (z0X (z0a (z0K (z0g 4 (pv 4)) z0e) z0c))))) (z4b (z5O (z3x (z4B (z2p (z0g 4 (pv 4)) (z1d z0e) z1W)) (z4B (z0X (z0a (z0g 1 (pv 1)) z0c))))) (z4b (z5O (z3x (z4B (z2p (z0g 4 (pv 4)) (z1d z0e) (z1d z0e))) (z4B (z2p (z0g 4 (pv 4)) (z1d z0e) z1W)))) y4X))))) (z3l (z8s (z0g 2 (pv 2)) z0e) z0e))))
      (z0f (z0Y (z0M (i:=6) sc__law_refused.nd rfl (Or.inl rfl) (z5O (z3x (z4B (z3x (z4B (z2p (z0g 0 (pv 0)) z1W (z1d (z0g 3 (pv 3))))) (z4B (z0X (z0a (z2o (z0a (z0K (z0K (z0g 0 (pv 0)) (z0g 3 (pv 3))) z0e) (z0a (z4R rfl T.b_tuple (z0g 5 (pv 5))) z0c))) z0c))))) (z4B (z2p (z0g 0 (pv 0)) (z1d (z2E (z0g 3 (pv 3)) z0e)) z1W))))))
      (z0f (z0Y (z0M (i:=7) sc__law_refused.nd rfl (Or.inl rfl) (z5O (z0X (z0a (z2o (z0a z0e (z0a (z0K (z0K (z0g 0 (pv 0)) (z0g 3 (pv 3))) z0e) z0c))) z0c)))))
      (z0f (z5V (PW.pt (z5t (z7e hr.units (z4k (z0l G__law_refusal (hr.mono (by decide)) rfl (z0a (z4B (z3x (z0g 0 (pv 0)) (z0g 7 (pv 7)))) (z0a (z0g 1 (pv 1)) z0c)))) z1i) (z5i (z7e hr.units (z4k (z0l G__law_refusal (hr.mono (by decide)) rfl (z0a (z4B (z0X z0c)) (z0a (z0g 1 (pv 1)) z0c)))) z1i)))) (z0h (z0G z4D)) z1y)
      (z0h (z0G (z8l (y5c hr.units (z4k (z0l G__law_refusal (hr.mono (by decide)) rfl (z0a (z0g 6 (pv 6)) (z0a (z0g 1 (pv 1)) z0c)))) z1i) (z9G (y5c hr.units (z4k (z0l G__law_refusal (hr.mono (by decide)) rfl (z0a (z4B (z3x (z0g 6 (pv 6)) (z0g 7 (pv 7)))) (z0a (z0g 1 (pv 1)) z0c)))) z1i)))))))))))
theorem sc_law : FnScope N_law P_law (z0b z7h):=⟨rfl,rfl,rfl,by decide +kernel,rfl,by decide +kernel,by decide +kernel⟩
theorem ok_law {f : Addr} {fd : FuncData} (F : Fun K "law" "law" z7h f fd) (T : Txt mg) (Z : Cls K mg base cl) (G_line_of : DefX P w K mg base 6 "line_of" (spXS K cl z1a)) (G__law_cell_at : DefOk P w K mg base 1 "_law_cell_at" (spN K z0q)) (G__law_order : DefOk P w K mg base 1 "_law_order" (spN K z1P)) (G__law_votes : DefOk P w K mg base 2 "_law_votes" (spN K z1S)) (G__law_line_holds : DefOk P w K mg base 2 "_law_line_holds" (spN K z0N)) (G__law_refused : DefOk P w K mg base 8 "_law_refused" (spN K z1j)) : FnOk P w K mg base CX0 9 f fd P_law (spNO K y0T) := 
  fnNO (k:=8) (g:=g_law) F sc_law rfl rfl fun cdv A outer s H E hr hO=>
    (z0f (z1R (z0M (i:=1) sc_law.nd rfl (Or.inl rfl) (z2E z0e (z3l (z4k (z0l G__law_cell_at (hr.mono (by decide)) rfl (z0a (z0g 0 (pv 0)) (z0a z0e z0c)))) z0e))))
      (z0f (z0Y (z0M (i:=2) sc_law.nd rfl (Or.inl rfl) (z0l G__law_order (hr.mono (by decide)) rfl (z0a (z4k (z0l G__law_cell_at (hr.mono (by decide)) rfl (z0a (z0g 0 (pv 0)) (z0a z0e z0c)))) (z0a (z0g 1 (pv 1)) z0c)))))
      (z0f (z0Y (z0M (i:=3) sc_law.nd rfl (Or.inl rfl) (z0l G__law_votes (hr.mono (by decide)) rfl (z0a (z0g 0 (pv 0)) (z0a (z0g 1 (pv 1)) (z0a (z0g 2 (pv 2)) z0c))))))
      (z0f (z0Y (z0M (i:=4) sc_law.nd rfl (Or.inl rfl) (z5O (z3S rfl T.b_list (z0g 3 (pv 3))))))
      (z0f (s_frz 4 (z7D (z0M (i:=5) sc_law.nd rfl (Or.inl rfl) (z8d G_line_of (hr.mono (by decide)) rfl (z0a (z0g 4 (pv 4)) (z0a (z0g 1 (pv 1)) z0c))))))
      (z0f (z5V (PW.pt (z5t (z2T (z1b (y6Q rfl T.b_tuple rfl T.b_isinstance (z0g 5 (pv 5))))) (z5t (z7e hr.units (z2n rfl T.b_len (z0g 5 (pv 5))) z0e) (z5t (z7e hr.units (z0K (z0g 5 (pv 5)) z0e) z1i) (z5i (z7e hr.units (z0g 4 (pv 4)) (z0g 3 (pv 3)))))))) (z0h (z0G z4D)) z1y)
      (z0f (z5V (z2T (z1b (z4k (z0l G__law_line_holds (hr.mono (by decide)) rfl (z0a (z0g 3 (pv 3)) (z0a (z0g 1 (pv 1)) (z0a (z0K (z0g 5 (pv 5)) z0e) z0c))))))) (z0h (z0G z4D)) z1y)
      (z0f (z0Y (z0M (i:=6) sc_law.nd rfl (Or.inl rfl) (z5O (z3S rfl T.b_list (z0K (z0g 5 (pv 5)) z0e)))))
      (ss_fgT hO (s_fgT (pv 5) z0e (z0a (z0g 1 (pv 1)) z0c))
      (z0h (z0G (z8l (y5c hr.units (z8d G_line_of (hr.mono (by decide)) rfl (z0a (z0g 4 (pv 4)) (z0a (z0g 1 (pv 1)) z0c))) (z2o (z0a z1i (z0a (z0g 6 (pv 6)) z0c)))) (z9G (z4k (z0l G__law_refused (hr.mono (by decide)) rfl (z0a (z0g 3 (pv 3)) (z0a (z0g 1 (pv 1)) (z0a (z4k (z0l G__law_cell_at (hr.mono (by decide)) rfl (z0a (z0g 0 (pv 0)) (z0a z0e z0c)))) z0c))))))))))))))))))
end
theorem all_mk {l : PySem.W.OpenLaw} {w : World} {K : PySem.W.Frag} {h : Heap} {mg : Str->Option Value} {fa : Addr} (X : K.In h) (G : h.Ns mainGlobals mg) (hfa : mg "law" = some (.ref fa))
    {f_is_thing f_tells_each_once f_asked f_voices f_puts_ahead f_lies_on f_are_side_by_side f_line_of f_lines_for f_bar_of f_picks f_with_one_more f_bar_among f_wanted_of f_pairs_with_last f_pairs_with_between f_first_places f_puts_all_ahead f__law_cell_at f__law_whole f__law_order f__law_on_line f__law_fits f__law_votes f__law_line_holds f__law_refusal f__law_refused f_law : Addr} {od_is_thing an_is_thing : Option Addr} {sl_is_thing : Array (Option Value)} {oc_is_thing kV_is_thing dc_is_thing pm_is_thing cd_is_thing ct_is_thing : Value} {od_tells_each_once an_tells_each_once : Option Addr} {sl_tells_each_once : Array (Option Value)} {oc_tells_each_once kV_tells_each_once dc_tells_each_once pm_tells_each_once cd_tells_each_once ct_tells_each_once : Value} {od_asked an_asked : Option Addr} {sl_asked : Array (Option Value)} {oc_asked kV_asked dc_asked pm_asked cd_asked ct_asked : Value} {od_voices an_voices : Option Addr} {sl_voices : Array (Option Value)} {oc_voices kV_voices dc_voices pm_voices cd_voices ct_voices : Value} {od_puts_ahead an_puts_ahead : Option Addr} {sl_puts_ahead : Array (Option Value)} {oc_puts_ahead kV_puts_ahead dc_puts_ahead pm_puts_ahead cd_puts_ahead ct_puts_ahead : Value} {od_lies_on an_lies_on : Option Addr} {sl_lies_on : Array (Option Value)} {oc_lies_on kV_lies_on dc_lies_on pm_lies_on cd_lies_on ct_lies_on : Value} {od_are_side_by_side an_are_side_by_side : Option Addr} {sl_are_side_by_side : Array (Option Value)} {oc_are_side_by_side kV_are_side_by_side dc_are_side_by_side pm_are_side_by_side cd_are_side_by_side ct_are_side_by_side : Value} {od_line_of an_line_of : Option Addr} {sl_line_of : Array (Option Value)} {oc_line_of kV_line_of dc_line_of pm_line_of cd_line_of ct_line_of : Value} {od_lines_for an_lines_for : Option Addr} {sl_lines_for : Array (Option Value)} {oc_lines_for kV_lines_for dc_lines_for pm_lines_for cd_lines_for ct_lines_for : Value} {od_bar_of an_bar_of : Option Addr} {sl_bar_of : Array (Option Value)} {oc_bar_of kV_bar_of dc_bar_of pm_bar_of cd_bar_of ct_bar_of : Value} {od_picks an_picks : Option Addr} {sl_picks : Array (Option Value)} {oc_picks kV_picks dc_picks pm_picks cd_picks ct_picks : Value} {od_with_one_more an_with_one_more : Option Addr} {sl_with_one_more : Array (Option Value)} {oc_with_one_more kV_with_one_more dc_with_one_more pm_with_one_more cd_with_one_more ct_with_one_more : Value} {od_bar_among an_bar_among : Option Addr} {sl_bar_among : Array (Option Value)} {oc_bar_among kV_bar_among dc_bar_among pm_bar_among cd_bar_among ct_bar_among : Value} {od_wanted_of an_wanted_of : Option Addr} {sl_wanted_of : Array (Option Value)} {oc_wanted_of kV_wanted_of dc_wanted_of pm_wanted_of cd_wanted_of ct_wanted_of : Value} {od_pairs_with_last an_pairs_with_last : Option Addr} {sl_pairs_with_last : Array (Option Value)} {oc_pairs_with_last kV_pairs_with_last dc_pairs_with_last pm_pairs_with_last cd_pairs_with_last ct_pairs_with_last : Value} {od_pairs_with_between an_pairs_with_between : Option Addr} {sl_pairs_with_between : Array (Option Value)} {oc_pairs_with_between kV_pairs_with_between dc_pairs_with_between pm_pairs_with_between cd_pairs_with_between ct_pairs_with_between : Value} {od_first_places an_first_places : Option Addr} {sl_first_places : Array (Option Value)} {oc_first_places kV_first_places dc_first_places pm_first_places cd_first_places ct_first_places : Value} {od_puts_all_ahead an_puts_all_ahead : Option Addr} {sl_puts_all_ahead : Array (Option Value)} {oc_puts_all_ahead kV_puts_all_ahead dc_puts_all_ahead pm_puts_all_ahead cd_puts_all_ahead ct_puts_all_ahead : Value} {od__law_cell_at an__law_cell_at : Option Addr} {sl__law_cell_at : Array (Option Value)} {oc__law_cell_at kV__law_cell_at dc__law_cell_at pm__law_cell_at cd__law_cell_at ct__law_cell_at : Value} {od__law_whole an__law_whole : Option Addr} {sl__law_whole : Array (Option Value)} {oc__law_whole kV__law_whole dc__law_whole pm__law_whole cd__law_whole ct__law_whole : Value} {od__law_order an__law_order : Option Addr} {sl__law_order : Array (Option Value)} {oc__law_order kV__law_order dc__law_order pm__law_order cd__law_order ct__law_order : Value} {od__law_on_line an__law_on_line : Option Addr} {sl__law_on_line : Array (Option Value)} {oc__law_on_line kV__law_on_line dc__law_on_line pm__law_on_line cd__law_on_line ct__law_on_line : Value} {od__law_fits an__law_fits : Option Addr} {sl__law_fits : Array (Option Value)} {oc__law_fits kV__law_fits dc__law_fits pm__law_fits cd__law_fits ct__law_fits : Value} {od__law_votes an__law_votes : Option Addr} {sl__law_votes : Array (Option Value)} {oc__law_votes kV__law_votes dc__law_votes pm__law_votes cd__law_votes ct__law_votes : Value} {od__law_line_holds an__law_line_holds : Option Addr} {sl__law_line_holds : Array (Option Value)} {oc__law_line_holds kV__law_line_holds dc__law_line_holds pm__law_line_holds cd__law_line_holds ct__law_line_holds : Value} {od__law_refusal an__law_refusal : Option Addr} {sl__law_refusal : Array (Option Value)} {oc__law_refusal kV__law_refusal dc__law_refusal pm__law_refusal cd__law_refusal ct__law_refusal : Value} {od__law_refused an__law_refused : Option Addr} {sl__law_refused : Array (Option Value)} {oc__law_refused kV__law_refused dc__law_refused pm__law_refused cd__law_refused ct__law_refused : Value} {od_law an_law : Option Addr} {sl_law : Array (Option Value)} {oc_law kV_law dc_law pm_law cd_law ct_law : Value} {C_AskError C_BadBallot C_Even : Addr}
    (a_is_thing : PySem.W.nsIn K mainGlobals "is_thing" = some (some (.ref f_is_thing))) (l_is_thing : K.lookup f_is_thing=some ⟨oc_is_thing,od_is_thing,.func (PySem.W.fnOf "is_thing" "is_thing" (z0t z2a) (z0n z2a) (z0b z2a) .none kV_is_thing dc_is_thing pm_is_thing an_is_thing cd_is_thing ct_is_thing),sl_is_thing⟩) (c_is_thing : PySem.W.codeIn K cd_is_thing "is_thing" = true) (k_is_thing : PySem.W.keepIn K (.ref f_is_thing)=true)
    (a_tells_each_once : PySem.W.nsIn K mainGlobals "tells_each_once" = some (some (.ref f_tells_each_once))) (l_tells_each_once : K.lookup f_tells_each_once=some ⟨oc_tells_each_once,od_tells_each_once,.func (PySem.W.fnOf "tells_each_once" "tells_each_once" (z0t z0B) (z0n z0B) (z0b z0B) .none kV_tells_each_once dc_tells_each_once pm_tells_each_once an_tells_each_once cd_tells_each_once ct_tells_each_once),sl_tells_each_once⟩) (c_tells_each_once : PySem.W.codeIn K cd_tells_each_once "tells_each_once" = true) (k_tells_each_once : PySem.W.keepIn K (.ref f_tells_each_once)=true)
    (a_asked : PySem.W.nsIn K mainGlobals "asked" = some (some (.ref f_asked))) (l_asked : K.lookup f_asked=some ⟨oc_asked,od_asked,.func (PySem.W.fnOf "asked" "asked" (z0t z4f) (z0n z4f) (z0b z4f) .none kV_asked dc_asked pm_asked an_asked cd_asked ct_asked),sl_asked⟩) (c_asked : PySem.W.codeIn K cd_asked "asked" = true) (k_asked : PySem.W.keepIn K (.ref f_asked)=true)
    (a_voices : PySem.W.nsIn K mainGlobals "voices" = some (some (.ref f_voices))) (l_voices : K.lookup f_voices=some ⟨oc_voices,od_voices,.func (PySem.W.fnOf "voices" "voices" (z0t z3n) (z0n z3n) (z0b z3n) .none kV_voices dc_voices pm_voices an_voices cd_voices ct_voices),sl_voices⟩) (c_voices : PySem.W.codeIn K cd_voices "voices" = true) (k_voices : PySem.W.keepIn K (.ref f_voices)=true)
    (a_puts_ahead : PySem.W.nsIn K mainGlobals "puts_ahead" = some (some (.ref f_puts_ahead))) (l_puts_ahead : K.lookup f_puts_ahead=some ⟨oc_puts_ahead,od_puts_ahead,.func (PySem.W.fnOf "puts_ahead" "puts_ahead" (z0t z1r) (z0n z1r) (z0b z1r) .none kV_puts_ahead dc_puts_ahead pm_puts_ahead an_puts_ahead cd_puts_ahead ct_puts_ahead),sl_puts_ahead⟩) (c_puts_ahead : PySem.W.codeIn K cd_puts_ahead "puts_ahead" = true) (k_puts_ahead : PySem.W.keepIn K (.ref f_puts_ahead)=true)
    (a_lies_on : PySem.W.nsIn K mainGlobals "lies_on" = some (some (.ref f_lies_on))) (l_lies_on : K.lookup f_lies_on=some ⟨oc_lies_on,od_lies_on,.func (PySem.W.fnOf "lies_on" "lies_on" (z0t z2A) (z0n z2A) (z0b z2A) .none kV_lies_on dc_lies_on pm_lies_on an_lies_on cd_lies_on ct_lies_on),sl_lies_on⟩) (c_lies_on : PySem.W.codeIn K cd_lies_on "lies_on" = true) (k_lies_on : PySem.W.keepIn K (.ref f_lies_on)=true)
    (a_are_side_by_side : PySem.W.nsIn K mainGlobals "are_side_by_side" = some (some (.ref f_are_side_by_side))) (l_are_side_by_side : K.lookup f_are_side_by_side=some ⟨oc_are_side_by_side,od_are_side_by_side,.func (PySem.W.fnOf "are_side_by_side" "are_side_by_side" (z0t z0y) (z0n z0y) (z0b z0y) .none kV_are_side_by_side dc_are_side_by_side pm_are_side_by_side an_are_side_by_side cd_are_side_by_side ct_are_side_by_side),sl_are_side_by_side⟩) (c_are_side_by_side : PySem.W.codeIn K cd_are_side_by_side "are_side_by_side" = true) (k_are_side_by_side : PySem.W.keepIn K (.ref f_are_side_by_side)=true)
    (a_line_of : PySem.W.nsIn K mainGlobals "line_of" = some (some (.ref f_line_of))) (l_line_of : K.lookup f_line_of=some ⟨oc_line_of,od_line_of,.func (PySem.W.fnOf "line_of" "line_of" (z0t z2B) (z0n z2B) (z0b z2B) .none kV_line_of dc_line_of pm_line_of an_line_of cd_line_of ct_line_of),sl_line_of⟩) (c_line_of : PySem.W.codeIn K cd_line_of "line_of" = true) (k_line_of : PySem.W.keepIn K (.ref f_line_of)=true)
    (a_lines_for : PySem.W.nsIn K mainGlobals "lines_for" = some (some (.ref f_lines_for))) (l_lines_for : K.lookup f_lines_for=some ⟨oc_lines_for,od_lines_for,.func (PySem.W.fnOf "lines_for" "lines_for" (z0t z1D) (z0n z1D) (z0b z1D) .none kV_lines_for dc_lines_for pm_lines_for an_lines_for cd_lines_for ct_lines_for),sl_lines_for⟩) (c_lines_for : PySem.W.codeIn K cd_lines_for "lines_for" = true) (k_lines_for : PySem.W.keepIn K (.ref f_lines_for)=true)
    (a_bar_of : PySem.W.nsIn K mainGlobals "bar_of" = some (some (.ref f_bar_of))) (l_bar_of : K.lookup f_bar_of=some ⟨oc_bar_of,od_bar_of,.func (PySem.W.fnOf "bar_of" "bar_of" (z0t z3p) (z0n z3p) (z0b z3p) .none kV_bar_of dc_bar_of pm_bar_of an_bar_of cd_bar_of ct_bar_of),sl_bar_of⟩) (c_bar_of : PySem.W.codeIn K cd_bar_of "bar_of" = true) (k_bar_of : PySem.W.keepIn K (.ref f_bar_of)=true)
    (a_picks : PySem.W.nsIn K mainGlobals "picks" = some (some (.ref f_picks))) (l_picks : K.lookup f_picks=some ⟨oc_picks,od_picks,.func (PySem.W.fnOf "picks" "picks" (z0t z4q) (z0n z4q) (z0b z4q) .none kV_picks dc_picks pm_picks an_picks cd_picks ct_picks),sl_picks⟩) (c_picks : PySem.W.codeIn K cd_picks "picks" = true) (k_picks : PySem.W.keepIn K (.ref f_picks)=true)
    (a_with_one_more : PySem.W.nsIn K mainGlobals "with_one_more" = some (some (.ref f_with_one_more))) (l_with_one_more : K.lookup f_with_one_more=some ⟨oc_with_one_more,od_with_one_more,.func (PySem.W.fnOf "with_one_more" "with_one_more" (z0t z0O) (z0n z0O) (z0b z0O) .none kV_with_one_more dc_with_one_more pm_with_one_more an_with_one_more cd_with_one_more ct_with_one_more),sl_with_one_more⟩) (c_with_one_more : PySem.W.codeIn K cd_with_one_more "with_one_more" = true) (k_with_one_more : PySem.W.keepIn K (.ref f_with_one_more)=true)
    (a_bar_among : PySem.W.nsIn K mainGlobals "bar_among" = some (some (.ref f_bar_among))) (l_bar_among : K.lookup f_bar_among=some ⟨oc_bar_among,od_bar_among,.func (PySem.W.fnOf "bar_among" "bar_among" (z0t z1E) (z0n z1E) (z0b z1E) .none kV_bar_among dc_bar_among pm_bar_among an_bar_among cd_bar_among ct_bar_among),sl_bar_among⟩) (c_bar_among : PySem.W.codeIn K cd_bar_among "bar_among" = true) (k_bar_among : PySem.W.keepIn K (.ref f_bar_among)=true)
    (a_wanted_of : PySem.W.nsIn K mainGlobals "wanted_of" = some (some (.ref f_wanted_of))) (l_wanted_of : K.lookup f_wanted_of=some ⟨oc_wanted_of,od_wanted_of,.func (PySem.W.fnOf "wanted_of" "wanted_of" (z0t z1F) (z0n z1F) (z0b z1F) .none kV_wanted_of dc_wanted_of pm_wanted_of an_wanted_of cd_wanted_of ct_wanted_of),sl_wanted_of⟩) (c_wanted_of : PySem.W.codeIn K cd_wanted_of "wanted_of" = true) (k_wanted_of : PySem.W.keepIn K (.ref f_wanted_of)=true)
    (a_pairs_with_last : PySem.W.nsIn K mainGlobals "pairs_with_last" = some (some (.ref f_pairs_with_last))) (l_pairs_with_last : K.lookup f_pairs_with_last=some ⟨oc_pairs_with_last,od_pairs_with_last,.func (PySem.W.fnOf "pairs_with_last" "pairs_with_last" (z0t z0A) (z0n z0A) (z0b z0A) .none kV_pairs_with_last dc_pairs_with_last pm_pairs_with_last an_pairs_with_last cd_pairs_with_last ct_pairs_with_last),sl_pairs_with_last⟩) (c_pairs_with_last : PySem.W.codeIn K cd_pairs_with_last "pairs_with_last" = true) (k_pairs_with_last : PySem.W.keepIn K (.ref f_pairs_with_last)=true)
    (a_pairs_with_between : PySem.W.nsIn K mainGlobals "pairs_with_between" = some (some (.ref f_pairs_with_between))) (l_pairs_with_between : K.lookup f_pairs_with_between=some ⟨oc_pairs_with_between,od_pairs_with_between,.func (PySem.W.fnOf "pairs_with_between" "pairs_with_between" (z0t z0u) (z0n z0u) (z0b z0u) .none kV_pairs_with_between dc_pairs_with_between pm_pairs_with_between an_pairs_with_between cd_pairs_with_between ct_pairs_with_between),sl_pairs_with_between⟩) (c_pairs_with_between : PySem.W.codeIn K cd_pairs_with_between "pairs_with_between" = true) (k_pairs_with_between : PySem.W.keepIn K (.ref f_pairs_with_between)=true)
    (a_first_places : PySem.W.nsIn K mainGlobals "first_places" = some (some (.ref f_first_places))) (l_first_places : K.lookup f_first_places=some ⟨oc_first_places,od_first_places,.func (PySem.W.fnOf "first_places" "first_places" (z0t z0V) (z0n z0V) (z0b z0V) .none kV_first_places dc_first_places pm_first_places an_first_places cd_first_places ct_first_places),sl_first_places⟩) (c_first_places : PySem.W.codeIn K cd_first_places "first_places" = true) (k_first_places : PySem.W.keepIn K (.ref f_first_places)=true)
    (a_puts_all_ahead : PySem.W.nsIn K mainGlobals "puts_all_ahead" = some (some (.ref f_puts_all_ahead))) (l_puts_all_ahead : K.lookup f_puts_all_ahead=some ⟨oc_puts_all_ahead,od_puts_all_ahead,.func (PySem.W.fnOf "puts_all_ahead" "puts_all_ahead" (z0t z0F) (z0n z0F) (z0b z0F) .none kV_puts_all_ahead dc_puts_all_ahead pm_puts_all_ahead an_puts_all_ahead cd_puts_all_ahead ct_puts_all_ahead),sl_puts_all_ahead⟩) (c_puts_all_ahead : PySem.W.codeIn K cd_puts_all_ahead "puts_all_ahead" = true) (k_puts_all_ahead : PySem.W.keepIn K (.ref f_puts_all_ahead)=true)
    (a__law_cell_at : PySem.W.nsIn K mainGlobals "_law_cell_at" = some (some (.ref f__law_cell_at))) (l__law_cell_at : K.lookup f__law_cell_at=some ⟨oc__law_cell_at,od__law_cell_at,.func (PySem.W.fnOf "_law_cell_at" "_law_cell_at" (z0t z0U) (z0n z0U) (z0b z0U) .none kV__law_cell_at dc__law_cell_at pm__law_cell_at an__law_cell_at cd__law_cell_at ct__law_cell_at),sl__law_cell_at⟩) (c__law_cell_at : PySem.W.codeIn K cd__law_cell_at "_law_cell_at" = true) (k__law_cell_at : PySem.W.keepIn K (.ref f__law_cell_at)=true)
    (a__law_whole : PySem.W.nsIn K mainGlobals "_law_whole" = some (some (.ref f__law_whole))) (l__law_whole : K.lookup f__law_whole=some ⟨oc__law_whole,od__law_whole,.func (PySem.W.fnOf "_law_whole" "_law_whole" (z0t z1s) (z0n z1s) (z0b z1s) .none kV__law_whole dc__law_whole pm__law_whole an__law_whole cd__law_whole ct__law_whole),sl__law_whole⟩) (c__law_whole : PySem.W.codeIn K cd__law_whole "_law_whole" = true) (k__law_whole : PySem.W.keepIn K (.ref f__law_whole)=true)
    (a__law_order : PySem.W.nsIn K mainGlobals "_law_order" = some (some (.ref f__law_order))) (l__law_order : K.lookup f__law_order=some ⟨oc__law_order,od__law_order,.func (PySem.W.fnOf "_law_order" "_law_order" (z0t z1p) (z0n z1p) (z0b z1p) .none kV__law_order dc__law_order pm__law_order an__law_order cd__law_order ct__law_order),sl__law_order⟩) (c__law_order : PySem.W.codeIn K cd__law_order "_law_order" = true) (k__law_order : PySem.W.keepIn K (.ref f__law_order)=true)
    (a__law_on_line : PySem.W.nsIn K mainGlobals "_law_on_line" = some (some (.ref f__law_on_line))) (l__law_on_line : K.lookup f__law_on_line=some ⟨oc__law_on_line,od__law_on_line,.func (PySem.W.fnOf "_law_on_line" "_law_on_line" (z0t z0T) (z0n z0T) (z0b z0T) .none kV__law_on_line dc__law_on_line pm__law_on_line an__law_on_line cd__law_on_line ct__law_on_line),sl__law_on_line⟩) (c__law_on_line : PySem.W.codeIn K cd__law_on_line "_law_on_line" = true) (k__law_on_line : PySem.W.keepIn K (.ref f__law_on_line)=true)
    (a__law_fits : PySem.W.nsIn K mainGlobals "_law_fits" = some (some (.ref f__law_fits))) (l__law_fits : K.lookup f__law_fits=some ⟨oc__law_fits,od__law_fits,.func (PySem.W.fnOf "_law_fits" "_law_fits" (z0t z1G) (z0n z1G) (z0b z1G) .none kV__law_fits dc__law_fits pm__law_fits an__law_fits cd__law_fits ct__law_fits),sl__law_fits⟩) (c__law_fits : PySem.W.codeIn K cd__law_fits "_law_fits" = true) (k__law_fits : PySem.W.keepIn K (.ref f__law_fits)=true)
    (a__law_votes : PySem.W.nsIn K mainGlobals "_law_votes" = some (some (.ref f__law_votes))) (l__law_votes : K.lookup f__law_votes=some ⟨oc__law_votes,od__law_votes,.func (PySem.W.fnOf "_law_votes" "_law_votes" (z0t z1q) (z0n z1q) (z0b z1q) .none kV__law_votes dc__law_votes pm__law_votes an__law_votes cd__law_votes ct__law_votes),sl__law_votes⟩) (c__law_votes : PySem.W.codeIn K cd__law_votes "_law_votes" = true) (k__law_votes : PySem.W.keepIn K (.ref f__law_votes)=true)
    (a__law_line_holds : PySem.W.nsIn K mainGlobals "_law_line_holds" = some (some (.ref f__law_line_holds))) (l__law_line_holds : K.lookup f__law_line_holds=some ⟨oc__law_line_holds,od__law_line_holds,.func (PySem.W.fnOf "_law_line_holds" "_law_line_holds" (z0t z0C) (z0n z0C) (z0b z0C) .none kV__law_line_holds dc__law_line_holds pm__law_line_holds an__law_line_holds cd__law_line_holds ct__law_line_holds),sl__law_line_holds⟩) (c__law_line_holds : PySem.W.codeIn K cd__law_line_holds "_law_line_holds" = true) (k__law_line_holds : PySem.W.keepIn K (.ref f__law_line_holds)=true)
    (a__law_refusal : PySem.W.nsIn K mainGlobals "_law_refusal" = some (some (.ref f__law_refusal))) (l__law_refusal : K.lookup f__law_refusal=some ⟨oc__law_refusal,od__law_refusal,.func (PySem.W.fnOf "_law_refusal" "_law_refusal" (z0t z0R) (z0n z0R) (z0b z0R) .none kV__law_refusal dc__law_refusal pm__law_refusal an__law_refusal cd__law_refusal ct__law_refusal),sl__law_refusal⟩) (c__law_refusal : PySem.W.codeIn K cd__law_refusal "_law_refusal" = true) (k__law_refusal : PySem.W.keepIn K (.ref f__law_refusal)=true)
    (a__law_refused : PySem.W.nsIn K mainGlobals "_law_refused" = some (some (.ref f__law_refused))) (l__law_refused : K.lookup f__law_refused=some ⟨oc__law_refused,od__law_refused,.func (PySem.W.fnOf "_law_refused" "_law_refused" (z0t z0S) (z0n z0S) (z0b z0S) .none kV__law_refused dc__law_refused pm__law_refused an__law_refused cd__law_refused ct__law_refused),sl__law_refused⟩) (c__law_refused : PySem.W.codeIn K cd__law_refused "_law_refused" = true) (k__law_refused : PySem.W.keepIn K (.ref f__law_refused)=true)
    (a_law : PySem.W.nsIn K mainGlobals "law" = some (some (.ref f_law))) (l_law : K.lookup f_law=some ⟨oc_law,od_law,.func (PySem.W.fnOf "law" "law" (z0t z7h) (z0n z7h) (z0b z7h) .none kV_law dc_law pm_law an_law cd_law ct_law),sl_law⟩) (c_law : PySem.W.codeIn K cd_law "law" = true) (k_law : PySem.W.keepIn K (.ref f_law)=true)
    (x_AskError : PySem.W.nsIn K mainGlobals "AskError" = some (some (.ref C_AskError))) (q_AskError : PySem.W.excIn K C_AskError bmVE "ValueError.__new__" = true)
    (x_BadBallot : PySem.W.nsIn K mainGlobals "BadBallot" = some (some (.ref C_BadBallot))) (q_BadBallot : PySem.W.excIn K C_BadBallot bmVE "ValueError.__new__" = true)
    (x_Even : PySem.W.nsIn K mainGlobals "Even" = some (some (.ref C_Even))) (q_Even : PySem.W.excIn K C_Even bmVE "ValueError.__new__" = true)
    (e_Even_AskError : PySem.W.exmOne K (.ref C_Even) (.ref C_AskError)=some true) (e_BadBallot_AskError : PySem.W.exmOne K (.ref C_BadBallot) (.ref C_AskError)=some true)
    (xb_AskError : z4u K C_AskError=true) (xb_BadBallot : z4u K C_BadBallot=true) (xb_Even : z4u K C_Even=true)
    (t_Even_BadBallot : PySem.W.kitOne K (.ref C_Even) (.ref C_BadBallot)=some false) (t_BadBallot_BadBallot : PySem.W.kitOne K (.ref C_BadBallot) (.ref C_BadBallot)=some true) (t_Even_Even : PySem.W.kitOne K (.ref C_Even) (.ref C_Even)=some true) (t_BadBallot_Even : PySem.W.kitOne K (.ref C_BadBallot) (.ref C_Even)=some false)
    (z_int : PySem.W.nsIn K mainGlobals "int" = some none) (z_isinstance : PySem.W.nsIn K mainGlobals "isinstance" = some none) (z_bool : PySem.W.nsIn K mainGlobals "bool" = some none) (z_len : PySem.W.nsIn K mainGlobals "len" = some none) (z_sum : PySem.W.nsIn K mainGlobals "sum" = some none) (z_max : PySem.W.nsIn K mainGlobals "max" = some none) (z_min : PySem.W.nsIn K mainGlobals "min" = some none) (z_range : PySem.W.nsIn K mainGlobals "range" = some none) (z_all : PySem.W.nsIn K mainGlobals "all" = some none) (z_tuple : PySem.W.nsIn K mainGlobals "tuple" = some none) (z_enumerate : PySem.W.nsIn K mainGlobals "enumerate" = some none) (z_list : PySem.W.nsIn K mainGlobals "list" = some none) (z_sorted : PySem.W.nsIn K mainGlobals "sorted" = some none) :
    ∃ fd : FuncData,(∀ (s : Shared) (v : Value),BindsTo s fd ⟨[v],[]⟩ [("script",v)])∧∀ base : Heap,K.In base->base.Ns mainGlobals mg->FnOk l.prog w K mg base CX0 9 fa fd ["script"] (y0x K y0T):=by
  have e:=hfa.symm.trans (PySem.W.mg_of X G a_law)
  cases e
  have T : Txt mg:=⟨PySem.W.mg_none_of X G z_int,PySem.W.mg_none_of X G z_isinstance,PySem.W.mg_none_of X G z_bool,PySem.W.mg_none_of X G z_len,PySem.W.mg_none_of X G z_sum,PySem.W.mg_none_of X G z_max,PySem.W.mg_none_of X G z_min,PySem.W.mg_none_of X G z_range,PySem.W.mg_none_of X G z_all,PySem.W.mg_none_of X G z_tuple,PySem.W.mg_none_of X G z_enumerate,PySem.W.mg_none_of X G z_list,PySem.W.mg_none_of X G z_sorted⟩
  have F_is_thing:=z0J (st:=z2a) l_is_thing c_is_thing k_is_thing
  have b_is_thing:=F_is_thing.binds (ps:=z4y) fun _ _ _ _ _ _ us hl=>match us,hl with | [_,_],_=>rfl
  have F_tells_each_once:=z0J (st:=z0B) l_tells_each_once c_tells_each_once k_tells_each_once
  have b_tells_each_once:=F_tells_each_once.binds (ps:=z1z) fun _ _ _ _ _ _ us hl=>match us,hl with | [_,_],_=>rfl
  have F_asked:=z0J (st:=z4f) l_asked c_asked k_asked
  have b_asked:=F_asked.binds (ps:=z6F) fun _ _ _ _ _ _ us hl=>match us,hl with | [_,_],_=>rfl
  have F_voices:=z0J (st:=z3n) l_voices c_voices k_voices
  have b_voices:=F_voices.binds (ps:=z6X) fun _ _ _ _ _ _ us hl=>match us,hl with | [_],_=>rfl
  have F_puts_ahead:=z0J (st:=z1r) l_puts_ahead c_puts_ahead k_puts_ahead
  have b_puts_ahead:=F_puts_ahead.binds (ps:=z2W) fun _ _ _ _ _ _ us hl=>match us,hl with | [_,_,_],_=>rfl
  have F_lies_on:=z0J (st:=z2A) l_lies_on c_lies_on k_lies_on
  have b_lies_on:=F_lies_on.binds (ps:=z5d) fun _ _ _ _ _ _ us hl=>match us,hl with | [_,_],_=>rfl
  have F_are_side_by_side:=z0J (st:=z0y) l_are_side_by_side c_are_side_by_side k_are_side_by_side
  have b_are_side_by_side:=F_are_side_by_side.binds (ps:=z1x) fun _ _ _ _ _ _ us hl=>match us,hl with | [_,_],_=>rfl
  have F_line_of:=z0J (st:=z2B) l_line_of c_line_of k_line_of
  have b_line_of:=F_line_of.binds (ps:=z4a) fun _ _ _ _ _ _ us hl=>match us,hl with | [_,_],_=>rfl
  have F_lines_for:=z0J (st:=z1D) l_lines_for c_lines_for k_lines_for
  have b_lines_for:=F_lines_for.binds (ps:=z3D) fun _ _ _ _ _ _ us hl=>match us,hl with | [_],_=>rfl
  have F_bar_of:=z0J (st:=z3p) l_bar_of c_bar_of k_bar_of
  have b_bar_of:=F_bar_of.binds (ps:=z7d) fun _ _ _ _ _ _ us hl=>match us,hl with | [_,_],_=>rfl
  have F_picks:=z0J (st:=z4q) l_picks c_picks k_picks
  have b_picks:=F_picks.binds (ps:=z8C) fun _ _ _ _ _ _ us hl=>match us,hl with | [_,_],_=>rfl
  have F_with_one_more:=z0J (st:=z0O) l_with_one_more c_with_one_more k_with_one_more
  have b_with_one_more:=F_with_one_more.binds (ps:=z2d) fun _ _ _ _ _ _ us hl=>match us,hl with | [_,_],_=>rfl
  have F_bar_among:=z0J (st:=z1E) l_bar_among c_bar_among k_bar_among
  have b_bar_among:=F_bar_among.binds (ps:=z3F) fun _ _ _ _ _ _ us hl=>match us,hl with | [_,_,_],_=>rfl
  have F_wanted_of:=z0J (st:=z1F) l_wanted_of c_wanted_of k_wanted_of
  have b_wanted_of:=F_wanted_of.binds (ps:=z3C) fun _ _ _ _ _ _ us hl=>match us,hl with | [_,_],_=>rfl
  have F_pairs_with_last:=z0J (st:=z0A) l_pairs_with_last c_pairs_with_last k_pairs_with_last
  have b_pairs_with_last:=F_pairs_with_last.binds (ps:=z1A) fun _ _ _ _ _ _ us hl=>match us,hl with | [_,_],_=>rfl
  have F_pairs_with_between:=z0J (st:=z0u) l_pairs_with_between c_pairs_with_between k_pairs_with_between
  have b_pairs_with_between:=F_pairs_with_between.binds (ps:=z1g) fun _ _ _ _ _ _ us hl=>match us,hl with | [_,_,_,_],_=>rfl
  have F_first_places:=z0J (st:=z0V) l_first_places c_first_places k_first_places
  have b_first_places:=F_first_places.binds (ps:=z2x) fun _ _ _ _ _ _ us hl=>match us,hl with | [_,_],_=>rfl
  have F_puts_all_ahead:=z0J (st:=z0F) l_puts_all_ahead c_puts_all_ahead k_puts_all_ahead
  have b_puts_all_ahead:=F_puts_all_ahead.binds (ps:=z1U) fun _ _ _ _ _ _ us hl=>match us,hl with | [_,_],_=>rfl
  have F__law_cell_at:=z0J (st:=z0U) l__law_cell_at c__law_cell_at k__law_cell_at
  have b__law_cell_at:=F__law_cell_at.binds (ps:=z2z) fun _ _ _ _ _ _ us hl=>match us,hl with | [_,_],_=>rfl
  have F__law_whole:=z0J (st:=z1s) l__law_whole c__law_whole k__law_whole
  have b__law_whole:=F__law_whole.binds (ps:=z3b) fun _ _ _ _ _ _ us hl=>match us,hl with | [_],_=>rfl
  have F__law_order:=z0J (st:=z1p) l__law_order c__law_order k__law_order
  have b__law_order:=F__law_order.binds (ps:=z3j) fun _ _ _ _ _ _ us hl=>match us,hl with | [_,_],_=>rfl
  have F__law_on_line:=z0J (st:=z0T) l__law_on_line c__law_on_line k__law_on_line
  have b__law_on_line:=F__law_on_line.binds (ps:=z2s) fun _ _ _ _ _ _ us hl=>match us,hl with | [_,_],_=>rfl
  have F__law_fits:=z0J (st:=z1G) l__law_fits c__law_fits k__law_fits
  have b__law_fits:=F__law_fits.binds (ps:=z3I) fun _ _ _ _ _ _ us hl=>match us,hl with | [_,_],_=>rfl
  have F__law_votes:=z0J (st:=z1q) l__law_votes c__law_votes k__law_votes
  have b__law_votes:=F__law_votes.binds (ps:=z2V) fun _ _ _ _ _ _ us hl=>match us,hl with | [_,_,_],_=>rfl
  have F__law_line_holds:=z0J (st:=z0C) l__law_line_holds c__law_line_holds k__law_line_holds
  have b__law_line_holds:=F__law_line_holds.binds (ps:=z1H) fun _ _ _ _ _ _ us hl=>match us,hl with | [_,_,_],_=>rfl
  have F__law_refusal:=z0J (st:=z0R) l__law_refusal c__law_refusal k__law_refusal
  have b__law_refusal:=F__law_refusal.binds (ps:=z2y) fun _ _ _ _ _ _ us hl=>match us,hl with | [_,_],_=>rfl
  have F__law_refused:=z0J (st:=z0S) l__law_refused c__law_refused k__law_refused
  have b__law_refused:=F__law_refused.binds (ps:=z2v) fun _ _ _ _ _ _ us hl=>match us,hl with | [_,_,_],_=>rfl
  have F_law:=z0J (st:=z7h) l_law c_law k_law
  have b_law:=F_law.binds (ps:=P_law) fun _ _ _ _ _ _ us hl=>match us,hl with | [_],_=>rfl
  refine ⟨PySem.W.fnOf "law" "law" (z0t z7h) (z0n z7h) (z0b z7h) .none kV_law dc_law pm_law an_law cd_law ct_law,fun s v=>.of_eq rfl,fun base KB GB=>?_⟩
  let cl : Nat->Value:=fun n=>match n with | 0=>.ref C_AskError | 1=>.ref C_BadBallot | 2=>.ref C_Even | _=>.none
  have Z : Cls K mg base cl:=⟨⟨C_AskError,rfl,y3K KB GB x_AskError q_AskError,x_AskError,xb_AskError⟩,⟨C_BadBallot,rfl,y3K KB GB x_BadBallot q_BadBallot,x_BadBallot,xb_BadBallot⟩,⟨C_Even,rfl,y3K KB GB x_Even q_Even,x_Even,xb_Even⟩,fun C h=>by cases h; exact e_Even_AskError,fun C h=>by cases h; exact e_BadBallot_AskError,fun D hD=>by cases hD; exact y6r (fun C hn=>by cases hn.symm.trans x_Even; exact t_Even_BadBallot) (y6r (fun C hn=>by cases hn.symm.trans x_BadBallot; exact t_BadBallot_BadBallot) (k_nil)),fun D hD=>by cases hD; exact y6r (fun C hn=>by cases hn.symm.trans x_Even; exact t_Even_Even) (y6r (fun C hn=>by cases hn.symm.trans x_BadBallot; exact t_BadBallot_Even) (k_nil))⟩
  have G_is_thing : DefOk l.prog w K mg base 1 "is_thing" (spN K z1Z):=z8Y F_is_thing (PySem.W.mg_of X G a_is_thing) b_is_thing T
  have G_tells_each_once : DefOk l.prog w K mg base 2 "tells_each_once" (spN K z0w):=z3U F_tells_each_once (PySem.W.mg_of X G a_tells_each_once) b_tells_each_once T G_is_thing
  have G_voices : DefOk l.prog w K mg base 1 "voices" (spN K z3Z):=y4c F_voices (PySem.W.mg_of X G a_voices) b_voices T
  have G_asked : DefX l.prog w K mg base 3 "asked" (spX K cl z2Z):=y5N F_asked (PySem.W.mg_of X G a_asked) b_asked T Z G_tells_each_once G_voices
  have G_puts_ahead : DefOk l.prog w K mg base 1 "puts_ahead" (spN K z2k):=z6U F_puts_ahead (PySem.W.mg_of X G a_puts_ahead) b_puts_ahead T
  have G_are_side_by_side : DefOk l.prog w K mg base 1 "are_side_by_side" (spN K z0H):=z3A F_are_side_by_side (PySem.W.mg_of X G a_are_side_by_side) b_are_side_by_side T
  have G_lies_on : DefOk l.prog w K mg base 2 "lies_on" (spN K z3m):=y1f F_lies_on (PySem.W.mg_of X G a_lies_on) b_lies_on T G_are_side_by_side
  have G_lines_for : DefOk l.prog w K mg base 1 "lines_for" (spR K z2b):=z7v F_lines_for (PySem.W.mg_of X G a_lines_for) b_lines_for T
  have G_with_one_more : DefOk l.prog w K mg base 1 "with_one_more" (spN K z1t):=z4E F_with_one_more (PySem.W.mg_of X G a_with_one_more) b_with_one_more T
  have G_picks : DefOk l.prog w K mg base 2 "picks" (spN K z5b):=y6v F_picks (PySem.W.mg_of X G a_picks) b_picks T G_with_one_more
  have G_pairs_with_last : DefOk l.prog w K mg base 1 "pairs_with_last" (spN K z1e):=z3Q F_pairs_with_last (PySem.W.mg_of X G a_pairs_with_last) b_pairs_with_last T
  have G_pairs_with_between : DefOk l.prog w K mg base 1 "pairs_with_between" (spN K z0z):=z3c F_pairs_with_between (PySem.W.mg_of X G a_pairs_with_between) b_pairs_with_between T
  have G_wanted_of : DefOk l.prog w K mg base 2 "wanted_of" (spN K z2I):=z8b F_wanted_of (PySem.W.mg_of X G a_wanted_of) b_wanted_of T G_pairs_with_last G_pairs_with_between
  have G_puts_all_ahead : DefOk l.prog w K mg base 2 "puts_all_ahead" (spN K z1m):=z4m F_puts_all_ahead (PySem.W.mg_of X G a_puts_all_ahead) b_puts_all_ahead T G_puts_ahead
  have G_first_places : DefOk l.prog w K mg base 3 "first_places" (spN K z1L):=z5B F_first_places (PySem.W.mg_of X G a_first_places) b_first_places T G_puts_all_ahead
  have G_bar_among : DefOk l.prog w K mg base 4 "bar_among" (spN K z2j):=z8o F_bar_among (PySem.W.mg_of X G a_bar_among) b_bar_among T G_wanted_of G_first_places
  have G_bar_of : DefOk l.prog w K mg base 5 "bar_of" (spN K z4Q):=y4N F_bar_of (PySem.W.mg_of X G a_bar_of) b_bar_of T G_picks G_bar_among
  have G_line_of : DefX l.prog w K mg base 6 "line_of" (spXS K cl z1a):=y0W F_line_of (PySem.W.mg_of X G a_line_of) b_line_of T Z G_asked G_lies_on G_lines_for G_bar_of
  have G__law_cell_at : DefOk l.prog w K mg base 1 "_law_cell_at" (spN K z0q):=z5x F__law_cell_at (PySem.W.mg_of X G a__law_cell_at) b__law_cell_at T
  have G__law_whole : DefOk l.prog w K mg base 1 "_law_whole" (spN K z1Q):=z6Q F__law_whole (PySem.W.mg_of X G a__law_whole) b__law_whole T
  have G__law_order : DefOk l.prog w K mg base 1 "_law_order" (spN K z1P):=z6W F__law_order (PySem.W.mg_of X G a__law_order) b__law_order T
  have G__law_on_line : DefOk l.prog w K mg base 1 "_law_on_line" (spN K z1h):=z4U F__law_on_line (PySem.W.mg_of X G a__law_on_line) b__law_on_line T
  have G__law_fits : DefOk l.prog w K mg base 1 "_law_fits" (spN K z1C):=z8r F__law_fits (PySem.W.mg_of X G a__law_fits) b__law_fits T
  have G__law_votes : DefOk l.prog w K mg base 2 "_law_votes" (spN K z1S):=z7l F__law_votes (PySem.W.mg_of X G a__law_votes) b__law_votes T G__law_cell_at G__law_on_line
  have G__law_line_holds : DefOk l.prog w K mg base 2 "_law_line_holds" (spN K z0N):=z3P F__law_line_holds (PySem.W.mg_of X G a__law_line_holds) b__law_line_holds T G__law_whole G__law_fits
  have G__law_refusal : DefOk l.prog w K mg base 7 "_law_refusal" (spN K z0r):=z5K F__law_refusal (PySem.W.mg_of X G a__law_refusal) b__law_refusal T Z G_line_of
  have G__law_refused : DefOk l.prog w K mg base 8 "_law_refused" (spN K z1j):=z5s F__law_refused (PySem.W.mg_of X G a__law_refused) b__law_refused T Z G__law_refusal
  exact law_ofO (ok_law F_law T Z G_line_of G__law_cell_at G__law_order G__law_votes G__law_line_holds G__law_refused)
theorem walk {l : PySem.W.OpenLaw} {q : Program} {loose : List Str} {XP : (Str->Option Value)->Heap->Prop} {YP : World->Heap->Prop} {d : DefRec} {K : Params->PySem.W.Frag} (hn : l.most=some 63) (hdf : d.params.defaults=[])
    (hlaw : ∀ ns : List Int,ns.length≤63->y0T [.scr ns]=some (.bl true)) (hY : ∀ (w : World) (h : Heap),YP w h->(K w.params).In h)
    (F : ∀ (w : World) (mg : Str->Option Value) (fa : Addr) (h : Heap),(K w.params).In h->h.Ns mainGlobals mg->mg d.name=some (.ref fa) →
      ∃ fd : FuncData,(∀ (s : Shared) (u : Value),BindsTo s fd ⟨[u],[]⟩ [("script",u)])∧∀ base : Heap,(K w.params).In base->base.Ns mainGlobals mg->FnOk l.prog w (K w.params) mg base CX0 9 fa fd ["script"] (y0x (K w.params) y0T)) :
    PySem.W.WalkO q loose XP YP l.row.toRowW d [] (fun f vs=>PySem.call f vs):=
  L2.walk_of (n:=63) (k:=9) (x := "script") (CX:=fun _=>CX0) (sp:=fun w=>y0x (K w.params) y0T) hn (by decide) hdf ⟨rfl,by decide,by decide⟩ hY F (fun _ _ a ns hl hO hS=>⟨y6b hO,a,ns,rfl,y5X hO hS,hlaw ns hl,fun _=>rfl⟩) fun _ _ _ _ _ z=>z
end Prg

namespace Prg
open PySem L2
open Lean in
local macro_rules
  | `(tactic| simp! only [$xs,*] $[$loc]?)=>do
    let a ← (("y3F y1C ev_C ev_d2 ev_d1 y2E z9H y3L y7s y2Y y7D ev_or ev_if y0s z9C y3u y0z y8g y8C z7I z9E ev_is y7g y3N y3k y3j y1A z7T y7r z8H y2W ev_bk ev_ct y3B y5t y4W y3f y1R y3A y2A y2h y3s y7M y7Z y7q ev_m0 ev_m1 y4w y0I y0r z9q z9I y3m z9W y4J y3M y4n y0G y8w y2Z y5s y0o y4B y7k y2N y8t y2j y0B z8e y4Q y0m y0p z4P z9N y0u z9x y3t y8e y4z y8x y4o y0y y4k y8F y9b y2z y2F y5m y2M y0e y1y y8y y8r y2n y9a y8R y8q y3h y7A y8J z7u y7I y2U eo_r1 y1M z9t y4p eo_2 y8j y4l y4f eo_or y7v y8X y5u y0i z9R y8I y1B y3C z8B z8M y4L eo_nx eo_rt eo_bk eo_ct y8l y8L y8W y4b y4Y y3l y4i y5p y3i y3T y2X y8m eo_in eo_ex y4D y8Y y7O y8T y7i y0t y4e y3Y y7h y8E y7Y y8b y8Z y8f y7G y7B y8D y7L y8V y7n y8a eo_r2 eo_r3 y3b z9w y7F y7x y2q y2a y8c y8K ea_lt ea_le ea_gt ea_ge y8h y7j y8O y8N y7u y8S y3P y4d y3e y1Q y4V y4K y4H y3I y4j y3H z9F y0k y0H y1w y3n y7R y7K y8o y3U y2H y2g y2l y4I y5r y4S y3p y7m y7U y7C y1W y2y y1Z y8u y7p y3W y1v y1T y3y y5a y2s y4u y7l y7o es_v1 es_v2 y2t y4y y2p y7E z9Z z9v z8h z8j y0j y7H y8H y2u y1V eb_bs eb_bn eb_ms eb_mn eb_s0 eb_sS eb_mc y3d eb_rS eb_r0 eb_ca eb_na".splitOn " ").toArray).mapM fun s=>`(Lean.Parser.Tactic.simpLemma| $(mkIdent s.toName):term)
    let b : Syntax.TSepArray [`Lean.Parser.Tactic.simpStar,`Lean.Parser.Tactic.simpErase,`Lean.Parser.Tactic.simpLemma] "," := ⟨(Syntax.TSepArray.ofElems (sep := ",") a).elemsAndSeps⟩
    `(tactic| simp only [$b,*,$xs,*] $[$loc]?)
local macro_rules | `(tactic| simp_all! only [$xs,*])=>`(tactic| simp only [y3F,y1C,ev_C,ev_d2,ev_d1,y2E,z9H,y3L,y7s,y2Y,y7D,ev_or,ev_if,y0s,z9C,y3u,y0z,y8g,y8C,z7I,z9E,ev_is,y7g,y3N,y3k,y3j,y1A,z7T,y7r,z8H,y2W,ev_bk,ev_ct,y3B,y5t,y4W,y3f,y1R,y3A,y2A,y2h,y3s,y7M,y7Z,y7q,ev_m0,ev_m1,y4w,y0I,y0r,z9q,z9I,y3m,z9W,y4J,y3M,y4n,y0G,y8w,y2Z,y5s,y0o,y4B,y7k,y2N,y8t,y2j,y0B,z8e,y4Q,y0m,y0p,z4P,z9N,y0u,z9x,y3t,y8e,y4z,y8x,y4o,y0y,y4k,y8F,y9b,y2z,y2F,y5m,y2M,y0e,y1y,y8y,y8r,y2n,y9a,y8R,y8q,y3h,y7A,y8J,z7u,y7I,y2U,eo_r1,y1M,z9t,y4p,eo_2,y8j,y4l,y4f,eo_or,y7v,y8X,y5u,y0i,z9R,y8I,y1B,y3C,z8B,z8M,y4L,eo_nx,eo_rt,eo_bk,eo_ct,y8l,y8L,y8W,y4b,y4Y,y3l,y4i,y5p,y3i,y3T,y2X,y8m,eo_in,eo_ex,y4D,y8Y,y7O,y8T,y7i,y0t,y4e,y3Y,y7h,y8E,y7Y,y8b,y8Z,y8f,y7G,y7B,y8D,y7L,y8V,y7n,y8a,eo_r2,eo_r3,y3b,z9w,y7F,y7x,y2q,y2a,y8c,y8K,ea_lt,ea_le,ea_gt,ea_ge,y8h,y7j,y8O,y8N,y7u,y8S,y3P,y4d,y3e,y1Q,y4V,y4K,y4H,y3I,y4j,y3H,z9F,y0k,y0H,y1w,y3n,y7R,y7K,y8o,y3U,y2H,y2g,y2l,y4I,y5r,y4S,y3p,y7m,y7U,y7C,y1W,y2y,y1Z,y8u,y7p,y3W,y1v,y1T,y3y,y5a,y2s,y4u,y7l,y7o,es_v1,es_v2,y2t,y4y,y2p,y7E,z9Z,z9v,z8h,z8j,y0j,y7H,y8H,y2u,y1V,eb_bs,eb_bn,eb_ms,eb_mn,eb_s0,eb_sS,eb_mc,y3d,eb_rS,eb_r0,eb_ca,eb_na,Int.reduceEq,Int.reduceLT,Int.reduceLE,Int.reduceGT,Int.reduceAdd,Int.reduceSub,Int.reduceMul,Int.reduceNeg,decide_true,decide_false,Bool.or_false,Bool.false_or,Bool.or_true,Bool.true_or,Bool.and_true,Bool.true_and,Bool.and_false,Bool.false_and,Bool.not_true,Bool.not_false,$xs,*])
theorem z6r (ns : List Int) (k : Nat) : ∃ c : Int,z0q [.scr ns,.int (k : Int)]=some (.int c):=by
  by_cases h : k < ns.length
  · refine ⟨ns[k],z2c rfl ?_⟩
    have h' : decide ((k : Int) < (ns.length : Int))=true:=by simp; omega
    simp! only [z1K,h',at_nat h,z0i]
  · refine ⟨0,z2c rfl ?_⟩
    have h' : decide ((k : Int) < (ns.length : Int))=false:=by simp; omega
    simp! only [z1K,h',z0i]


theorem y5O (n : Int) : z1Q [.int n]=some (.bl true):=by
  refine z2c rfl ?_
  simp_all! only [z3h,z0i]

theorem y1Y (c : Int) (m : Nat) (hm : m≤1000) : hol (z1P [.int c,.int (m : Int)]) fun d=>∃ o : List Nat,d=thD o∧o.Perm (List.range m):=by
  refine z8S rfl ?_
  simp! only [z2X,z9D (show m≤1000000 by omega),y0D,th_nil]
  refine z1M (I:=fun s=>∃ (o : List Nat) (c' : Int) (o3 : Option SD),s=[some (.sh (.int c')),some (.sh (.int (m : Int))),some (.ow (thD o)),o3]∧o.Perm (List.range m)) ?_ ?_
  · refine for_rng (fun n s=>∃ (o : List Nat) (c' : Int) (o3 : Option SD),s=[some (.sh (.int c')),some (.sh (.int (m : Int))),some (.ow (thD o)),o3]∧o.Perm (List.range n)) ⟨[],c,none,rfl,.nil⟩ ?_ fun s z=>⟨s,rfl,z⟩
    rintro n hn s ⟨o,c',o3,rfl,hp⟩
    have hlen : o.length=n:=by have:=hp.length_eq; simpa using this
    obtain ⟨j,ej,hj⟩:=z5L (x:=c') (n:=n + 1) (by omega)
    have ej : c' % ((n : Int) + 1)=(j : Int):=ej
    have m1 : z4H (.int c') (.int ((n : Int) + 1))=some (.int (j : Int)):=by rw [z3y (show (0 : Int) < (n : Int) + 1 by omega),ej]
    have v1 : z9M (.int c') (.int ((n : Int) + 1))=some (.int (c' / ((n : Int) + 1))):=z7r (show CDiv _ _ from ⟨by omega,by omega⟩)
    have im : z6I (some [.int (j : Int),.int (n : Int)])=some [.int (j : Int),.int (n : Int)]:=z9A rfl
    have iv:=ins_thV (o:=o) (b:=j) (v:=n) (by omega) (by omega)
    simp! only [Int.zero_add,m1,v1,im,iv,z0i]
    refine ⟨_,_,_,rfl,?_⟩
    have p1 : (o.take j ++ n :: o.drop j).Perm (n :: o):=by
      refine List.perm_middle.trans ?_
      rw [List.take_append_drop]
    refine p1.trans ?_
    rw [List.range_succ]
    exact (hp.cons _).trans (List.perm_append_singleton _ _).symm
  · rintro s ⟨o,c',o3,rfl,hp⟩
    simp! only [z0i]
    exact ⟨_,rfl,o,rfl,hp⟩

theorem z1k {o : List Nat} {m : Nat} (h : o.Perm (List.range m)) : o.length=m:=by simpa using h.length_eq
theorem z5k {o : List Nat} {m : Nat} (h : o.Perm (List.range m)) : o.Nodup:=h.nodup_iff.mpr List.nodup_range
theorem z7i (o : List Nat) : o.map nD=(o.map fun n=>((n : Nat) : Int)).map D.int:=by rw [List.map_map]; rfl

theorem y3Z {o : List Nat} {x : Nat} (h : x∈o) : y6T (thD o) (.int (x : Int))=some (.int ((o.findIdx fun n=>n == x : Nat) : Int)):=by
  show ((z1n (o.map nD)).bind fun ns=>(ns.findIdx? (fun n=>n == (x : Int))).map fun j=>D.int (j : Int))=_
  rw [z7i,z6t,Option.bind_some,List.findIdx?_map]
  have e : ((fun n : Int=>n == (x : Int)) ∘ fun n : Nat=>((n : Nat) : Int))=fun n=>n == x:=by
    funext n
    show ((n : Int) == (x : Int))=(n == x)
    by_cases hz : n=x
    · subst hz; simp
    · have h1 : ((n : Int) == (x : Int))=false:=by rw [beq_eq_false_iff_ne]; omega
      have h2 : (n == x)=false:=by rw [beq_eq_false_iff_ne]; exact hz
      rw [h1,h2]
  rw [e,List.findIdx?_eq_guard_findIdx_lt]
  have hl : o.findIdx (fun n=>n == x) < o.length:=List.findIdx_lt_length_of_exists ⟨x,h,by simp⟩
  simp [Option.guard,hl]

/-! side by side on a line -/
def ixO (l : List Nat) (x : Nat) : Nat:=l.findIdx fun n=>n == x
def pls (a l : List Nat) : List Int:=a.map fun x=>((ixO l x : Nat) : Int)
def sbB (a l : List Nat) (k : Nat) : Bool:=decide (mxI (pls (a.take (k + 1)) l) - mnI (pls (a.take (k + 1)) l)=((k + 1 : Nat) : Int) - 1)
def liB (a l : List Nat) : Bool:=(List.range a.length).all fun k=>sbB a l k
theorem y4A {a l : List Nat} (h : a≠[]) : pls a l≠[]:=fun z=>h (List.map_eq_nil_iff.mp z)
theorem rng1s {n : Nat} (h : n≤1000) : rng2 (some (.int 1)) (some (.int ((n : Int) + 1)))=some (z3L 1 n):=by
  rw [eo_rng2 ⟨by omega,by omega,by omega,by omega⟩]
  congr 2
  omega
theorem side_eq {a l : List Nat} {k : Nat} (hk : k < a.length) (hl : a.length≤900) (h : ∀ x∈a,x∈l) : z0H [ttD (a.take (k + 1)),thD l]=some (.bl (sbB a l k)):=by
  refine z2c rfl ?_
  obtain ⟨b,hb⟩ : ∃ b,b=a.take (k + 1):=⟨_,rfl⟩
  have hbl : b.length=k + 1:=by rw [hb,List.length_take]; omega
  have hbm : ∀ x∈b,x∈l:=fun x hx=>h x (List.mem_of_mem_take (by rw [← hb]; exact hx))
  have hne : b≠[]:=fun z=>by rw [z] at hbl; simp at hbl
  unfold sbB
  rw [← hb]
  simp! only [z1v,y2J]
  rw [z7y (fun x=>D.int ((ixO l x : Nat) : Int)) (by omega) fun x hx=>by
    simp! only [nD,y3Z (hbm x hx)]
    rfl]
  have e : (b.map fun x=>D.int ((ixO l x : Nat) : Int))=(pls b l).map D.int:=by unfold pls; rw [List.map_map]; rfl
  simp! only [e,flat_in,lst_in,max_in (y4A hne),min_in (y4A hne),y7t,hbl,z0i]
theorem lies_eq {a l : List Nat} (hl : a.length≤900) (h : ∀ x∈a,x∈l) : z3m [ttD a,thD l]=some (.bl (liB a l)):=by
  refine z2c rfl ?_
  simp! only [z4W,y7t,rng1s (show a.length≤1000 by omega)]
  unfold z3L
  rw [z7y (enc:=fun i : Nat=>D.int (1 + (i : Nat))) (xs:=List.range a.length) (fun k=>bD (sbB a l k)) (by simp; omega) fun k hk=>by
    have hk:=List.mem_range.mp hk
    have e : (1 : Int) + (k : Int)=((k + 1 : Nat) : Int):=by omega
    simp! only [e,y3z (show k + 1≤a.length by omega),side_eq hk hl h,bD]]
  have e : ((List.range a.length).map fun k=>bD (sbB a l k))=((List.range a.length).map fun k=>sbB a l k).map bD:=by rw [List.map_map]; rfl
  have e2 : (((List.range a.length).map fun k=>sbB a l k).all fun b=>b)=liB a l:=by rw [List.all_map]; rfl
  simp! only [e,ea_all,e2,z0i]

theorem z3e {o : List Nat} {x : Nat} (h : x∈o) : ixO o x < o.length:=List.findIdx_lt_length_of_exists ⟨x,h,by simp⟩
theorem z7c {o : List Nat} {x : Nat} (h : x∈o) : o[ixO o x]'(z3e h)=x:=by
  have:=List.findIdx_getElem (xs:=o) (p:=fun n=>n == x) (w:=z3e h)
  exact beq_iff_eq.mp this
/-! votes: voices and orders of things -/
def vtD (b : Int × List Nat) : D:=.tup [.int b.1,ttD b.2]

/-! next to those ahead -/
theorem z6E {ns : List Int} : ∀ {k i : Nat},i≤k->ns.getD (bst ns k) 0≤ns.getD i 0
  | 0,i,h=>by
    have : i=0:=by omega
    subst this
    exact Int.le_refl _
  | k + 1,i,h=>by
    unfold bst
    by_cases hc : ns.getD (k + 1) 0 < ns.getD (bst ns k) 0
    · rw [if_pos (decide_eq_true hc)]
      by_cases hi : i=k + 1
      · rw [hi]; exact Int.le_refl _
      · have:=z6E (ns:=ns) (k:=k) (i:=i) (by omega)
        omega
    · rw [if_neg (by simpa using hc)]
      by_cases hi : i=k + 1
      · rw [hi]; omega
      · exact z6E (by omega)
theorem y5q {ns : List Int} : ∀ k,bst ns k≤k
  | 0=>Nat.le_refl 0
  | k + 1=>by
    unfold bst
    split
    · exact Nat.le_refl _
    · have:=y5q (ns:=ns) k; omega
theorem z4O {ns : List Int} : ∀ {k i : Nat},i≤k->ns.getD i 0≤ns.getD (y0Z ns k) 0
  | 0,i,h=>by
    have : i=0:=by omega
    subst this
    exact Int.le_refl _
  | k + 1,i,h=>by
    unfold y0Z
    by_cases hc : ns.getD (k + 1) 0 > ns.getD (y0Z ns k) 0
    · rw [if_pos (decide_eq_true hc)]
      by_cases hi : i=k + 1
      · rw [hi]; exact Int.le_refl _
      · have:=z4O (ns:=ns) (k:=k) (i:=i) (by omega)
        omega
    · rw [if_neg (by simpa using hc)]
      by_cases hi : i=k + 1
      · rw [hi]; omega
      · exact z4O (by omega)
theorem z8O {ns : List Int} : ∀ k,y0Z ns k≤k
  | 0=>Nat.le_refl 0
  | k + 1=>by
    unfold y0Z
    split
    · exact Nat.le_refl _
    · have:=z8O (ns:=ns) k; omega
theorem z6y {ns : List Int} {k : Nat} (h : k < ns.length) : ns.getD k 0∈ns:=by
  rw [List.getD_eq_getElem?_getD,List.getElem?_eq_getElem h]
  exact List.getElem_mem h
theorem y4m {ns : List Int} {z : Int} (hz : z∈ns) (h : ∀ x∈ns,z≤x) : mnI ns=z:=by
  have hp:=List.length_pos_of_mem hz
  obtain ⟨i,hi,rfl⟩:=List.mem_iff_getElem.mp hz
  have h1:=z6E (ns:=ns) (k:=ns.length - 1) (i:=i) (by omega)
  have h2:=h _ (z6y (show bst ns (ns.length - 1) < ns.length by have:=y5q (ns:=ns) (ns.length - 1); omega))
  have e : ns.getD i 0=ns[i]:=by rw [List.getD_eq_getElem?_getD,List.getElem?_eq_getElem hi]; rfl
  unfold mnI
  omega
theorem y2L {ns : List Int} {z : Int} (hz : z∈ns) (h : ∀ x∈ns,x≤z) : mxI ns=z:=by
  have hp:=List.length_pos_of_mem hz
  obtain ⟨i,hi,rfl⟩:=List.mem_iff_getElem.mp hz
  have h1:=z4O (ns:=ns) (k:=ns.length - 1) (i:=i) (by omega)
  have h2:=h _ (z6y (show y0Z ns (ns.length - 1) < ns.length by have:=z8O (ns:=ns) (ns.length - 1); omega))
  have e : ns.getD i 0=ns[i]:=by rw [List.getD_eq_getElem?_getD,List.getElem?_eq_getElem hi]; rfl
  unfold mxI
  omega
def ftG : Int->Int->List Int->Bool
  | _,_,[]=>true
  | lo,hi,p :: r=>if p=lo - 1 then ftG p hi r else if p=hi + 1 then ftG lo p r else false
theorem y3c : ∀ {r pre : List Int} {lo hi : Int},lo≤hi->(∀ z,z∈pre↔lo≤z∧z≤hi)->hi - lo + 1=(pre.length : Int)->(pre ++ r).Nodup->(ftG lo hi r=true↔∀ k,pre.length≤k->k < (pre ++ r).length->mxI ((pre ++ r).take (k + 1)) - mnI ((pre ++ r).take (k + 1))=(k : Int))
  | [],pre,lo,hi,_,_,_,_=>⟨fun _ k h1 h2=>by rw [List.append_nil] at h2; omega,fun _=>rfl⟩
  | p :: r,pre,lo,hi,hlh,hpre,hlen,nd=>by
    have e0 : pre ++ p :: r=(pre ++ [p]) ++ r:=by simp
    have hp : p ∉ pre:=by
      rw [List.nodup_append] at nd
      exact fun z=>nd.2.2 p z p List.mem_cons_self rfl
    have hp2 : p < lo∨hi < p:=by
      by_cases h : lo≤p∧p≤hi
      · exact absurd ((hpre p).mpr h) hp
      · omega
    have tk : (pre ++ p :: r).take (pre.length + 1)=pre ++ [p]:=by
      rw [e0,List.take_left' (by simp)]
    have hlo : lo∈pre:=(hpre lo).mpr ⟨Int.le_refl _,hlh⟩
    have hhi : hi∈pre:=(hpre hi).mpr ⟨hlh,Int.le_refl _⟩
    have kl : pre.length < (pre ++ p :: r).length:=by simp
    have ll : ((pre ++ [p]).length : Int)=(pre.length : Int) + 1:=by simp
    rw [show ftG lo hi (p :: r)=if p=lo - 1 then ftG p hi r else if p=hi + 1 then ftG lo p r else false from rfl]
    by_cases h1 : p=lo - 1
    · rw [if_pos h1]
      have ih:=y3c (r:=r) (pre:=pre ++ [p]) (lo:=p) (hi:=hi) (by omega) (fun z=>by
        rw [List.mem_append,hpre,List.mem_singleton]; omega) (by rw [ll]; omega) (by rw [← e0]; exact nd)
      rw [ih,← e0]
      constructor
      · intro h k k1 k2
        by_cases hk : k=pre.length
        · subst hk
          rw [tk,y2L (z:=hi) (List.mem_append_left _ hhi) fun x hx=>?_,y4m (z:=p) (by simp) fun x hx=>?_]
          · omega
          · rcases List.mem_append.mp hx with z | z
            · have:=(hpre x).mp z; omega
            · rw [List.mem_singleton.mp z]; omega
          · rcases List.mem_append.mp hx with z | z
            · have:=(hpre x).mp z; omega
            · rw [List.mem_singleton.mp z]; omega
        · exact h k (by simp; omega) k2
      · intro h k k1 k2
        exact h k (by simp at k1; omega) k2
    · rw [if_neg h1]
      by_cases h2 : p=hi + 1
      · rw [if_pos h2]
        have ih:=y3c (r:=r) (pre:=pre ++ [p]) (lo:=lo) (hi:=p) (by omega) (fun z=>by
          rw [List.mem_append,hpre,List.mem_singleton]; omega) (by rw [ll]; omega) (by rw [← e0]; exact nd)
        rw [ih,← e0]
        constructor
        · intro h k k1 k2
          by_cases hk : k=pre.length
          · subst hk
            rw [tk,y2L (z:=p) (by simp) fun x hx=>?_,y4m (z:=lo) (List.mem_append_left _ hlo) fun x hx=>?_]
            · omega
            · rcases List.mem_append.mp hx with z | z
              · have:=(hpre x).mp z; omega
              · rw [List.mem_singleton.mp z]; omega
            · rcases List.mem_append.mp hx with z | z
              · have:=(hpre x).mp z; omega
              · rw [List.mem_singleton.mp z]; omega
          · exact h k (by simp; omega) k2
        · intro h k k1 k2
          exact h k (by simp at k1; omega) k2
      · rw [if_neg h2]
        constructor
        · intro h; cases h
        · intro h
          have h3:=h pre.length (Nat.le_refl _) kl
          rw [tk] at h3
          rcases hp2 with hp2 | hp2
          · rw [y2L (z:=hi) (List.mem_append_left _ hhi) fun x hx=>?_,y4m (z:=p) (by simp) fun x hx=>?_] at h3
            · omega
            · rcases List.mem_append.mp hx with z | z
              · have:=(hpre x).mp z; omega
              · rw [List.mem_singleton.mp z]; omega
            · rcases List.mem_append.mp hx with z | z
              · have:=(hpre x).mp z; omega
              · rw [List.mem_singleton.mp z]; omega
          · rw [y2L (z:=p) (by simp) fun x hx=>?_,y4m (z:=lo) (List.mem_append_left _ hlo) fun x hx=>?_] at h3
            · omega
            · rcases List.mem_append.mp hx with z | z
              · have:=(hpre x).mp z; omega
              · rw [List.mem_singleton.mp z]; omega
            · rcases List.mem_append.mp hx with z | z
              · have:=(hpre x).mp z; omega
              · rw [List.mem_singleton.mp z]; omega
def ftB (a l : List Nat) : Bool:=match pls a l with
  | []=>true
  | p :: r=>ftG p p r
theorem y2D {l : List Nat} {x y : Nat} (hx : x∈l) (hy : y∈l) (h : ixO l x=ixO l y) : x=y:=by
  have k1 : ixO l x < l.length:=List.findIdx_lt_length_of_exists ⟨x,hx,by simp⟩
  have k2 : ixO l y < l.length:=List.findIdx_lt_length_of_exists ⟨y,hy,by simp⟩
  have e1 : (l[ixO l x] == x)=true:=List.findIdx_getElem (w:=k1)
  have e2 : (l[ixO l y] == y)=true:=List.findIdx_getElem (w:=k2)
  have e1:=eq_of_beq e1
  have e2:=eq_of_beq e2
  rw [← e1,← e2]
  congr 1
theorem y5H {a l : List Nat} (nd : a.Nodup) (h : ∀ x∈a,x∈l) : liB a l=ftB a l:=by
  have ndp : (pls a l).Nodup:=by
    unfold pls
    rw [List.Nodup,List.pairwise_map]
    refine List.Pairwise.imp_of_mem ?_ nd
    intro x y hx hy hne z
    exact hne (y2D (h x hx) (h y hy) (by omega))
  have key : liB a l=true↔∀ k,k < (pls a l).length->mxI ((pls a l).take (k + 1)) - mnI ((pls a l).take (k + 1))=(k : Int):=by
    unfold liB
    rw [List.all_eq_true]
    have hlen : (pls a l).length=a.length:=by simp [pls]
    have tk : ∀ k,(pls a l).take (k + 1)=pls (a.take (k + 1)) l:=fun k=>by unfold pls; rw [List.map_take]
    constructor
    · intro H k hk
      have:=of_decide_eq_true (H k (List.mem_range.mpr (by omega)))
      rw [tk,this]
      omega
    · intro H k hk
      have:=H k (by rw [hlen]; exact List.mem_range.mp hk)
      rw [tk] at this
      exact decide_eq_true (by rw [this]; omega)
  rw [Bool.eq_iff_iff,key]
  unfold ftB
  cases hp : pls a l with
  | nil=>exact ⟨fun _=>rfl,fun _ k hk=>by simp at hk⟩
  | cons p r=>
    rw [hp] at ndp
    have:=y3c (r:=r) (pre:=[p]) (lo:=p) (hi:=p) (Int.le_refl _) (fun z=>by rw [List.mem_singleton]; omega) (by simp) ndp
    show _↔ftG p p r=true
    rw [this]
    constructor
    · intro H k _ k2
      exact H k k2
    · intro H k k2
      by_cases hk : k=0
      · subst hk
        show mxI [p] - mnI [p]=0
        rw [y2L (z:=p) (by simp) (by simp),y4m (z:=p) (by simp) (by simp)]
        omega
      · exact H k (by simp; omega) k2

theorem y1c {a l : List Nat} (h : ∀ x∈a,x∈l) (ha : a≠[]) (hl : a.length≤900) : z1C [ttD a,thD l]=some (.bl (ftB a l)):=by
  refine z2c rfl ?_
  obtain ⟨x,r,rfl⟩ : ∃ x r,a=x :: r:=by
    cases a with
    | nil=>exact absurd rfl ha
    | cons x r=>exact ⟨x,r,rfl⟩
  have i0 : ixD (ttD (x :: r)) (.int 0)=some (.int (x : Int)):=z9w
  have l0 : y6T (thD l) (.int (x : Int))=some (.int ((ixO l x : Nat) : Int)):=y3Z (h x List.mem_cons_self)
  have ct : y3X (some (ttD (x :: r))) (some (some 1)) (some none)=some (ttD r):=by
    show some (D.tup (z3s ((x :: r).map nD) (some ((1 : Nat) : Int)) none))=_
    rw [z2S]
    rfl
  simp! only [z3B,i0,l0,ct,y2J]
  have gen : ∀ {q : List Nat} {lo hi : Int} {o4 o5 : Option SD},(∀ x∈q,x∈l)->hol (z3R 4 (z0W (z3J 5 (d2 y6T (z0d 1) (z0d 4))) (ifO (z0P (d2 eqD (z0d 5) (d2 y5w (z0d 2) (dC (.int 1))))) (z3J 2 (z0d 5)) (ifO (z0P (d2 eqD (z0d 5) (d2 z6j (z0d 3) (dC (.int 1))))) (z3J 3 (z0d 5)) (z3d (dC (.bl false)))))) (q.map nD) [some (.sh (ttD (x :: r))),some (.sh (thD l)),some (.sh (.int lo)),some (.sh (.int hi)),o4,o5]) fun o=>if ftG lo hi (pls q l)=true then ∃ s,o = .nx s else o = .rt (.bl false):=by
    intro q
    induction q with
    | nil=>exact fun {lo hi o4 o5} _=>⟨_,rfl,(if_pos rfl).mpr ⟨_,rfl⟩⟩
    | cons y q ih=>
      intro lo hi o4 o5 hq
      have ly : y6T (thD l) (.int (y : Int))=some (.int ((ixO l y : Nat) : Int)):=y3Z (hq y List.mem_cons_self)
      rw [List.map_cons]
      unfold z3R
      have ep : pls (y :: q) l=((ixO l y : Nat) : Int) :: pls q l:=rfl
      rw [ep,show ftG lo hi (((ixO l y : Nat) : Int) :: pls q l)=if ((ixO l y : Nat) : Int)=lo - 1 then ftG ((ixO l y : Nat) : Int) hi (pls q l) else if ((ixO l y : Nat) : Int)=hi + 1 then ftG lo ((ixO l y : Nat) : Int) (pls q l) else false from rfl]
      by_cases h1 : ((ixO l y : Nat) : Int)=lo - 1
      · have d1 : decide (((ixO l y : Nat) : Int)=lo - 1)=true:=decide_eq_true h1
        rw [if_pos h1]
        simp! only [nD,ly,d1,Option.bind_some]
        exact ih fun x hx=>hq x (List.mem_cons_of_mem _ hx)
      · have d1 : decide (((ixO l y : Nat) : Int)=lo - 1)=false:=decide_eq_false h1
        rw [if_neg h1]
        by_cases h2 : ((ixO l y : Nat) : Int)=hi + 1
        · have d2 : decide (((ixO l y : Nat) : Int)=hi + 1)=true:=decide_eq_true h2
          rw [if_pos h2]
          simp! only [nD,ly,d1,d2,Option.bind_some]
          exact ih fun x hx=>hq x (List.mem_cons_of_mem _ hx)
        · have d2 : decide (((ixO l y : Nat) : Int)=hi + 1)=false:=decide_eq_false h2
          rw [if_neg h2]
          simp! only [nD,ly,d1,d2,Option.bind_some]
          exact ⟨_,rfl,(if_neg Bool.false_ne_true).mpr rfl⟩
  have g:=gen (q:=r) (lo:=((ixO l x : Nat) : Int)) (hi:=((ixO l x : Nat) : Int)) (o4:=none) (o5:=none) fun y hy=>h y (List.mem_cons_of_mem _ hy)
  have ef : ftB (x :: r) l=ftG ((ixO l x : Nat) : Int) ((ixO l x : Nat) : Int) (pls r l):=rfl
  rw [← ef] at g
  obtain ⟨o,eo,q⟩:=g
  rw [eo]
  cases hf : ftB (x :: r) l with
  | true=>
    rw [hf,if_pos rfl] at q
    obtain ⟨s,rfl⟩:=q
    simp! only [z0i]
  | false=>
    rw [hf,if_neg Bool.false_ne_true] at q
    subst q
    simp! only [z0i]

/-! who lies between two others is not the last of the three -/
/-- who lies between two others of the order on the line is not the last of the three -/
def Md (o l : List Nat) : Prop:=∀ {x y z : Nat},x∈o->y∈o->z∈o->ixO o x < ixO o y->ixO o z < ixO o y->ixO l x < ixO l y->ixO l y < ixO l z->False
/-! no line -/
/-! the lines that an order fits -/
def lnS (L : List (List Nat)) (y : Nat) : List (List Nat):=L.map (fun l=>y :: l) ++ L.map fun l=>l ++ [y]
def lnF (x : Nat) (r : List Nat) : List (List Nat):=r.foldl lnS [[x]]
theorem y5e {l : List Nat} {y z : Nat} (h : z≠y) : ixO (y :: l) z=ixO l z + 1:=by
  unfold ixO
  rw [List.findIdx_cons,beq_eq_false_iff_ne.mpr (Ne.symm h)]
  rfl
theorem y6t {l : List Nat} {y : Nat} : ixO (y :: l) y=0:=by
  unfold ixO
  rw [List.findIdx_cons]
  simp
theorem z6m {l k : List Nat} {z : Nat} (h : z∈l) : ixO (l ++ k) z=ixO l z:=by
  unfold ixO
  rw [List.findIdx_append,if_pos (List.findIdx_lt_length_of_exists ⟨z,h,by simp⟩)]
theorem y7V {l : List Nat} {y : Nat} (h : y ∉ l) : ixO (l ++ [y]) y=l.length:=by
  have e : l.findIdx (fun n=>n == y)=l.length:=List.findIdx_eq_length.mpr fun x hx=>beq_eq_false_iff_ne.mpr fun z=>h (z ▸ hx)
  unfold ixO
  rw [List.findIdx_append,e,if_neg (by omega),List.findIdx_cons]
  simp
theorem ln_ok' : ∀ (n : Nat) (r : List Nat),r.length=n->∀ {x : Nat},(x :: r).Nodup->∀ l∈lnF x r,l.Perm (x :: r)∧Md (x :: r) l:=fun n=>by
  induction n with
  | zero=>
    intro r hr x _ l hl
    have hr : r=[]:=List.length_eq_zero_iff.mp hr
    subst hr
    have : l=[x]:=by simpa [lnF] using hl
    subst this
    refine ⟨.refl _,fun {a b c} ha hb hc h1 _ _ _=>?_⟩
    rw [List.mem_singleton.mp ha,List.mem_singleton.mp hb] at h1
    omega
  | succ n ih0=>
    intro r0 hr0
    obtain ⟨r,y,rfl⟩ : ∃ r y,r0=r ++ [y]:=⟨r0.dropLast,r0.getLast (fun z=>by rw [z] at hr0; simp at hr0),(List.dropLast_concat_getLast _).symm⟩
    intro x nd l' hl'
    have ih:=ih0 r (by rw [List.length_append] at hr0; simp at hr0; omega) (x:=x)
    have nd2 : ((x :: r) ++ [y]).Nodup:=nd
    have ndp : (x :: r).Nodup:=(List.nodup_append.mp nd2).1
    have hy : y ∉ x :: r:=fun z=>(List.nodup_append.mp nd2).2.2 y z y (by simp) rfl
    have e : lnF x (r ++ [y])=lnS (lnF x r) y:=by unfold lnF; rw [List.foldl_append]; rfl
    rw [e] at hl'
    have key : ∀ l∈lnF x r,∀ l',l'.Perm (y :: l)->(∀ z∈x :: r,∀ w∈x :: r,ixO l' z < ixO l' w->ixO l z < ixO l w)->(∀ z∈(x :: r) ++ [y],∀ w∈(x :: r) ++ [y],ixO l' z < ixO l' y->ixO l' y < ixO l' w->False)->l'.Perm ((x :: r) ++ [y])∧Md ((x :: r) ++ [y]) l':=fun l hl l' hp hm he=>by
      obtain ⟨g1,g2⟩:=ih ndp l hl
      refine ⟨(hp.trans (g1.cons y)).trans (List.perm_append_singleton _ _).symm,fun {a b c} ha hb hc h1 h2 k1 k2=>?_⟩
      have inp : ∀ {z : Nat},z∈(x :: r) ++ [y]->z≠y->z∈x :: r:=fun hz hne=>by
        rcases List.mem_append.mp hz with w | w
        · exact w
        · exact (hne (List.mem_singleton.mp w)).elim
      by_cases hby : b=y
      · subst hby
        exact he a ha c hc k1 k2
      · have hb':=inp hb hby
        have ey : ixO ((x :: r) ++ [y]) y=(x :: r).length:=y7V hy
        have eb : ixO ((x :: r) ++ [y]) b=ixO (x :: r) b:=z6m hb'
        have lb:=z3e hb'
        have hay : a≠y:=fun z=>by rw [z,ey,eb] at h1; omega
        have hcy : c≠y:=fun z=>by rw [z,ey,eb] at h2; omega
        have ha':=inp ha hay
        have hc':=inp hc hcy
        rw [z6m ha',eb] at h1
        rw [z6m hc',eb] at h2
        exact g2 ha' hb' hc' h1 h2 (hm a ha' b hb' k1) (hm b hb' c hc' k2)
    show l'.Perm ((x :: r) ++ [y])∧Md ((x :: r) ++ [y]) l'
    rcases List.mem_append.mp hl' with w | w
    · obtain ⟨l,hl,rfl⟩:=List.mem_map.mp w
      refine key l hl _ (.refl _) (fun z hz w hw h=>?_) fun z hz w hw h _=>?_
      · have hzy : z≠y:=fun q=>hy (q ▸ hz)
        have hwy : w≠y:=fun q=>hy (q ▸ hw)
        rw [y5e hzy,y5e hwy] at h
        omega
      · rw [y6t] at h
        omega
    · obtain ⟨l,hl,rfl⟩:=List.mem_map.mp w
      have g1:=(ih ndp l hl).1
      have hyl : y ∉ l:=fun z=>hy (g1.mem_iff.mp z)
      refine key l hl _ (List.perm_append_singleton _ _) (fun z hz w hw h=>?_) fun z hz w hw _ h=>?_
      · rw [z6m (g1.mem_iff.mpr hz),z6m (g1.mem_iff.mpr hw)] at h
        exact h
      · rw [y7V hyl] at h
        have hw2 : w∈l ++ [y]:=by
          rcases List.mem_append.mp hw with q | q
          · exact List.mem_append_left _ (g1.mem_iff.mpr q)
          · exact List.mem_append_right _ q
        have:=z3e hw2
        rw [List.length_append] at this
        simp at this
        omega
theorem ln_ok {r : List Nat} {x : Nat} (nd : (x :: r).Nodup) {l : List Nat} (h : l∈lnF x r) : l.Perm (x :: r)∧Md (x :: r) l:=ln_ok' r.length r rfl nd l h
theorem y3J : ∀ {r : List Nat} {L : List (List Nat)},(r.foldl lnS L).length=2 ^ r.length * L.length
  | [],L=>by simp
  | y :: r,L=>by
    rw [List.foldl_cons,y3J]
    have : (lnS L y).length=2 * L.length:=by unfold lnS; rw [List.length_append,List.length_map,List.length_map]; omega
    rw [this,List.length_cons,Nat.pow_succ,Nat.mul_assoc]
theorem y3w : ∀ {r : List Nat} {L : List (List Nat)} {n : Nat},(∀ l∈L,l.length≤n)->∀ l∈r.foldl lnS L,l.length≤n + r.length
  | [],L,n,h,l,hl=>h l hl
  | y :: r,L,n,h,l,hl=>by
    rw [List.foldl_cons] at hl
    have:=y3w (r:=r) (L:=lnS L y) (n:=n + 1) (fun l hl=>by
      rcases List.mem_append.mp hl with w | w
      · obtain ⟨q,hq,rfl⟩:=List.mem_map.mp w
        have:=h q hq
        simp
        omega
      · obtain ⟨q,hq,rfl⟩:=List.mem_map.mp w
        have:=h q hq
        simp
        omega) l hl
    rw [List.length_cons]
    omega
theorem z8F {x : Nat} {r : List Nat} (hr : r.length≤7) : z2b [ttD (x :: r)]=some (.lst ((lnF x r).map thD)):=by
  refine z2c rfl ?_
  have i0 : ixD (ttD (x :: r)) (.int 0)=some (nD x):=z0Z (j:=0) rfl
  have ct : y3X (some (ttD (x :: r))) (some (some 1)) (some none)=some (ttD r):=by
    show some (D.tup (z3s ((x :: r).map nD) (some ((1 : Nat) : Int)) none))=_
    rw [z2S]
    rfl
  have fl : z4r (some [nD x])=some [nD x]:=rfl
  have t1 : D.lst [D.lst [nD x]] = .lst (([[x]] : List (List Nat)).map thD):=rfl
  obtain ⟨tt,htt⟩ : ∃ q,q=ttD (x :: r):=⟨_,rfl⟩
  rw [← htt] at i0 ct ⊢
  simp! only [z3H,i0,fl,t1,ct,y2J]
  refine z1M (I:=fun s=>∃ o2,s=[some (.sh tt),some (.sh (.lst ((lnF x r).map thD))),o2]) ?_ ?_
  · refine z5g (enc:=nD) (fun pre s=>∃ o2,s=[some (.sh tt),some (.sh (.lst ((pre.foldl lnS [[x]]).map thD))),o2]) ⟨_,rfl⟩ ?_ fun s z=>⟨s,rfl,z⟩
    rintro pre y post e s ⟨o2,rfl⟩
    have hpl : pre.length≤6:=by have:=congrArg List.length e; rw [List.length_append,List.length_cons] at this; omega
    have l1 : (pre.foldl lnS [[x]]).length≤64:=by
      rw [y3J]
      have : 2 ^ pre.length≤2 ^ 6:=Nat.pow_le_pow_right (by omega) hpl
      simpa using this
    have l2 : ∀ l∈pre.foldl lnS [[x]],l.length≤8:=fun l hl=>by
      have:=y3w (n:=1) (by simp) l hl
      omega
    rw [List.foldl_append]
    obtain ⟨L,hL⟩ : ∃ L,L=pre.foldl lnS [[x]]:=⟨_,rfl⟩
    rw [← hL] at l1 l2 ⊢
    have tl : D.lst [nD y]=thD [y]:=rfl
    have c1 : ∀ δ : DS,z5P (some (L.map thD)) (z5U z8y (z0D (z8x (mkL (z0j [z0d 2])) (z0d 3))) [some tt,some (.lst (L.map thD)),some (nD y)])=some ((L.map fun l=>y :: l).map thD):=fun _=>by
      rw [z7y (fun l=>thD (y :: l)) (by omega) fun l hl=>by
        have:=l2 l hl
        have ct:=z7Z (a:=[y]) (b:=l) (by simp; omega)
        have ct : z7H (some (thD [y])) (some (thD l))=some ((y :: l).map nD):=ct
        simp! only [tl,ct]
        rw [← eb_mc,z6v]
        rfl,List.map_map]
      rfl
    have c2 : ∀ δ : DS,z5P (some (L.map thD)) (z5U z8y (z0D (z8x (z0d 3) (mkL (z0j [z0d 2])))) [some tt,some (.lst (L.map thD)),some (nD y)])=some ((L.map fun l=>l ++ [y]).map thD):=fun _=>by
      rw [z7y (fun l=>thD (l ++ [y])) (by omega) fun l hl=>by
        have:=l2 l hl
        have ct:=z7Z (a:=l) (b:=[y]) (by simp; omega)
        simp! only [tl,ct,z6v]
        rfl,List.map_map]
      rfl
    have ct3 : z7H (some (.lst ((L.map fun l=>y :: l).map thD))) (some (.lst ((L.map fun l=>l ++ [y]).map thD)))=some ((lnS L y).map thD):=by
      rw [y3g (by rw [List.length_map,List.length_map,List.length_map,List.length_map]; omega)]
      unfold lnS
      rw [List.map_append]
    simp! only [c1 [],c2 [],ct3,z0i]
    exact ⟨_,rfl⟩
  · rintro s ⟨o2,rfl⟩
    simp! only [z0i]

theorem nd_inj {l : List Nat} (nd : l.Nodup) {i j : Nat} (hi : i < l.length) (hj : j < l.length) (h : l[i]=l[j]) : i=j:=by
  have:=List.pairwise_iff_getElem.mp nd
  rcases Nat.lt_trichotomy i j with z | z | z
  · exact absurd h (this i j hi hj z)
  · exact z
  · exact absurd h.symm (this j i hj hi z)
theorem z7W {l : List Nat} (nd : l.Nodup) {i : Nat} (hi : i < l.length) : ixO l l[i]=i:=nd_inj nd (z3e (List.getElem_mem hi)) hi (z7c (List.getElem_mem hi))

/-! every line that the first ballot fits is among its lines; each of its lines fits it -/
theorem z6T {l : List Nat} : ∀ {r : List Nat} {L : List (List Nat)} {lo hi : Nat},lo≤hi->hi < l.length->(∀ x∈r,x∈l)->(l.drop lo).take (hi + 1 - lo)∈L->ftG (lo : Int) (hi : Int) (pls r l)=true->∃ lo' hi',lo'≤hi'∧hi' < l.length∧hi' + 1 - lo'=hi + 1 - lo + r.length∧(l.drop lo').take (hi' + 1 - lo')∈r.foldl lnS L
  | [],L,lo,hi,h1,h2,_,hm,_=>⟨lo,hi,h1,h2,by simp,hm⟩
  | y :: r,L,lo,hi,h1,h2,hr,hm,hf=>by
    have hy:=hr y (by simp)
    have hr' : ∀ x∈r,x∈l:=fun x hx=>hr x (List.mem_cons_of_mem _ hx)
    have e : pls (y :: r) l=((ixO l y : Nat) : Int) :: pls r l:=rfl
    rw [e] at hf
    unfold ftG at hf
    have ily:=z3e hy
    have gy:=z7c hy
    split at hf
    · rename_i hp
      obtain ⟨k,rfl⟩ : ∃ k,lo=k + 1:=⟨lo - 1,by omega⟩
      have eix : ixO l y=k:=by omega
      have ek : l[k]'(by omega)=y:=by simp only [eix] at gy; exact gy
      rw [eix] at hf
      have seg : (l.drop k).take (hi + 1 - k)=y :: (l.drop (k + 1)).take (hi + 1 - (k + 1)):=by
        rw [List.drop_eq_getElem_cons (show k < l.length by omega),show hi + 1 - k=(hi + 1 - (k + 1)) + 1 by omega,List.take_succ_cons,ek]
      obtain ⟨lo',hi',a,b,c,d⟩:=z6T (r:=r) (L:=lnS L y) (lo:=k) (hi:=hi) (by omega) h2 hr' (by rw [seg]; exact List.mem_append_left _ (List.mem_map.mpr ⟨_,hm,rfl⟩)) hf
      exact ⟨lo',hi',a,b,by rw [c,List.length_cons]; omega,d⟩
    · split at hf
      · rename_i hp
        have eix : ixO l y=hi + 1:=by omega
        have ek : l[hi + 1]'(by omega)=y:=by simp only [eix] at gy; exact gy
        rw [eix] at hf
        have seg : (l.drop lo).take (hi + 1 + 1 - lo)=(l.drop lo).take (hi + 1 - lo) ++ [y]:=by
          rw [show hi + 1 + 1 - lo=(hi + 1 - lo) + 1 by omega,List.take_succ,List.getElem?_drop,show lo + (hi + 1 - lo)=hi + 1 by omega,List.getElem?_eq_getElem (by omega),ek]
          rfl
        obtain ⟨lo',hi',a,b,c,d⟩:=z6T (r:=r) (L:=lnS L y) (lo:=lo) (hi:=hi + 1) (by omega) (by omega) hr' (by rw [seg]; exact List.mem_append_right _ (List.mem_map.mpr ⟨_,hm,rfl⟩)) hf
        exact ⟨lo',hi',a,b,by rw [c,List.length_cons]; omega,d⟩
      · cases hf
theorem ln_has {x : Nat} {r l : List Nat} (hp : (x :: r).Perm l) (hf : ftB (x :: r) l=true) : l∈lnF x r:=by
  have hin : ∀ y∈x :: r,y∈l:=fun y hy=>hp.mem_iff.mp hy
  have hx:=hin x (by simp)
  have hf : ftG ((ixO l x : Nat) : Int) ((ixO l x : Nat) : Int) (pls r l)=true:=hf
  have seg : (l.drop (ixO l x)).take (ixO l x + 1 - ixO l x)=[x]:=by
    rw [List.drop_eq_getElem_cons (z3e hx),show ixO l x + 1 - ixO l x=0 + 1 by omega,List.take_succ_cons,z7c hx]
    rfl
  obtain ⟨lo,hi,h1,h2,h3,h4⟩:=z6T (r:=r) (L:=[[x]]) (lo:=ixO l x) (hi:=ixO l x) (Nat.le_refl _) (z3e hx) (fun y hy=>hin y (List.mem_cons_of_mem _ hy)) (by rw [seg]; simp) hf
  have hl:=hp.length_eq
  rw [List.length_cons] at hl
  have e0 : lo=0:=by omega
  subst e0
  rw [List.drop_zero,List.take_of_length_le (by omega)] at h4
  exact h4
/-- who lies between two is never last of the three: each part is side by side -/
theorem y6E {ps : List Int} (nd : ps.Nodup) {lo hi : Int} (h1 : lo∈ps) (h2 : hi∈ps) (hb : ∀ p∈ps,lo≤p∧p≤hi) (hc : ∀ p,lo≤p->p≤hi->p∈ps) : hi - lo + 1=(ps.length : Int):=by
  have hle:=(hb hi h2).1
  obtain ⟨n,hn⟩ : ∃ n : Nat,hi - lo=(n : Int):=⟨(hi - lo).toNat,by omega⟩
  have nd2 : ((List.range (n + 1)).map fun k : Nat=>lo + (k : Int)).Nodup:=by
    rw [List.Nodup,List.pairwise_map]
    exact List.nodup_range.imp fun h z=>h (by omega)
  have:=((List.perm_ext_iff_of_nodup nd nd2).mpr fun p=>by
    rw [List.mem_map]
    constructor
    · intro h
      have:=hb p h
      exact ⟨(p - lo).toNat,List.mem_range.mpr (by omega),by omega⟩
    · rintro ⟨k,hk,rfl⟩
      have:=List.mem_range.mp hk
      exact hc _ (by omega) (by omega)).length_eq
  rw [List.length_map,List.length_range] at this
  omega
theorem mn_mem {ns : List Int} (h : ns≠[]) : mnI ns∈ns∧∀ x∈ns,mnI ns≤x:=by
  have hp:=List.length_pos_iff.mpr h
  refine ⟨z6y (by have:=y5q (ns:=ns) (ns.length - 1); omega),fun x hx=>?_⟩
  obtain ⟨i,hi,rfl⟩:=List.mem_iff_getElem.mp hx
  have h1:=z6E (ns:=ns) (k:=ns.length - 1) (i:=i) (by omega)
  have e : ns.getD i 0=ns[i]:=by rw [List.getD_eq_getElem?_getD,List.getElem?_eq_getElem hi]; rfl
  unfold mnI
  omega
theorem mx_mem {ns : List Int} (h : ns≠[]) : mxI ns∈ns∧∀ x∈ns,x≤mxI ns:=by
  have hp:=List.length_pos_iff.mpr h
  refine ⟨z6y (by have:=z8O (ns:=ns) (ns.length - 1); omega),fun x hx=>?_⟩
  obtain ⟨i,hi,rfl⟩:=List.mem_iff_getElem.mp hx
  have h1:=z4O (ns:=ns) (k:=ns.length - 1) (i:=i) (by omega)
  have e : ns.getD i 0=ns[i]:=by rw [List.getD_eq_getElem?_getD,List.getElem?_eq_getElem hi]; rfl
  unfold mxI
  omega
theorem md_li {o l : List Nat} (nd : o.Nodup) (hp : o.Perm l) (hM : Md o l) : liB o l=true:=by
  have hin : ∀ y∈o,y∈l:=fun y hy=>hp.mem_iff.mp hy
  have ndl : l.Nodup:=hp.nodup_iff.mp nd
  refine List.all_eq_true.mpr fun k hk=>?_
  have hk:=List.mem_range.mp hk
  refine decide_eq_true ?_
  obtain ⟨b,hb⟩ : ∃ b,b=o.take (k + 1):=⟨_,rfl⟩
  have hbl : b.length=k + 1:=by rw [hb,List.length_take]; omega
  have hbo : ∀ x∈b,x∈o:=fun x hx=>by rw [hb] at hx; exact List.mem_of_mem_take hx
  have ndb : b.Nodup:=by rw [hb]; exact (List.take_sublist _ _).nodup nd
  rw [← hb]
  have ne : pls b l≠[]:=y4A fun z=>by rw [z] at hbl; simp at hbl
  have ndp : (pls b l).Nodup:=by
    unfold pls
    rw [List.Nodup,List.pairwise_map]
    refine List.Pairwise.imp_of_mem (fun {x y} hx hy h z=>h ?_) ndb
    exact y2D (hin x (hbo x hx)) (hin y (hbo y hy)) (by omega)
  have plen : (pls b l).length=k + 1:=by unfold pls; rw [List.length_map,hbl]
  obtain ⟨hmn,mnl⟩:=mn_mem ne
  obtain ⟨hmx,mxl⟩:=mx_mem ne
  have:=y6E ndp hmn hmx (fun p hp=>⟨mnl p hp,mxl p hp⟩) fun p h1 h2=>by
    obtain ⟨u,hu,eu⟩:=List.mem_map.mp hmn
    obtain ⟨w,hw,ew⟩:=List.mem_map.mp hmx
    have hwl:=z3e (hin w (hbo w hw))
    obtain ⟨i,rfl⟩ : ∃ i : Nat,p=(i : Int):=⟨p.toNat,by omega⟩
    have hil : i < l.length:=by omega
    obtain ⟨z,hz⟩ : ∃ z,z=l[i]:=⟨_,rfl⟩
    have hzl : z∈l:=by rw [hz]; exact List.getElem_mem _
    have ez : ixO l z=i:=by rw [hz]; exact z7W ndl hil
    have hzo : z∈o:=hp.mem_iff.mpr hzl
    refine Classical.byContradiction fun hnp=>?_
    have hzb : z ∉ b:=fun q=>hnp (List.mem_map.mpr ⟨z,q,by rw [ez]⟩)
    have late : ∀ x∈b,ixO o x < ixO o z:=fun x hx=>by
      have h1 : ixO o x < k + 1:=by
        rw [hb] at hx
        have e : o.take (k + 1) ++ o.drop (k + 1)=o:=List.take_append_drop _ _
        have h2:=z3e hx
        have h3 : ixO o x=ixO (o.take (k + 1)) x:=by
          have:=z6m (k:=o.drop (k + 1)) hx
          rw [e] at this
          exact this
        rw [h3]
        rw [List.length_take] at h2
        omega
      have h2 : k + 1≤ixO o z:=by
        refine Nat.le_of_not_lt fun q=>hzb ?_
        have g:=z7c hzo
        rw [hb,← g]
        exact List.mem_take_iff_getElem.mpr ⟨ixO o z,by have:=z3e hzo; omega,rfl⟩
      omega
    have nu : ixO l u≠i:=fun q=>hnp (List.mem_map.mpr ⟨u,hu,by rw [q]⟩)
    have nw : ixO l w≠i:=fun q=>hnp (List.mem_map.mpr ⟨w,hw,by rw [q]⟩)
    exact hM (hbo u hu) hzo (hbo w hw) (late u hu) (late w hw) (by omega) (by omega)
  rw [plen] at this
  omega

theorem y5k (bs : List (Int × List Int)) (hl : bs.length≤1000000) : z3Z [z7n bs]=some (.int (z6p bs)):=by
  refine z2c rfl ?_
  have hl' : (bs.map z3i).length≤1000000:=by rw [List.length_map]; exact hl
  have c : z2g (z5U z8y (d2 ixD (z0d 1) (dC (.int 0))) [some (z7n bs)]) (bs.map z3i)=some ((bs.map (·.1)).map .int):=by
    rw [List.map_map]
    exact z6k (fun b : Int × List Int=>.int b.1) fun b _=>by simp! only [y4s]
  have hv : (bs.map (·.1)).sum=z6p bs:=rfl
  simp! only [z7j,z6s,z9a hl',c,y3q,hv,z0i]

theorem y6q (x : Int) (m : Nat) : z1Z [.int x,.int (m : Int)]=some (.bl (decide (0≤x) && decide (x < (m : Int)))):=by
  refine z2c rfl ?_
  have c : chO leI ltI (some (.int 0)) (some (.int x)) (some (.int (m : Int)))=some (.bl (decide (0≤x) && decide (x < (m : Int)))):=y6Y ea_le ea_lt
  simp_all! only [z4w,c,z0i]
/-- the things told ahead are p: the rest tells things,none of them twice -/
def tk (m : Nat) : List Int->List Int->Bool
  | _,[]=>true
  | p,x :: r=>((decide (0≤x) && decide (x < (m : Int))) && !p.contains x) && tk m (p ++ [x]) r
theorem z8T {m : Nat} : ∀ {o p : List Int},tk m p o=true->(∀ x∈o,0≤x∧x < (m : Int))∧o.Nodup∧∀ x∈o,x ∉ p
  | [],_,_=>⟨(fun _ h=>nomatch h),List.Pairwise.nil,(fun _ h=>nomatch h)⟩
  | x :: r,p,h=>by
    have h:=Bool.and_eq_true_iff.mp h
    have h1:=Bool.and_eq_true_iff.mp h.1
    have h2:=Bool.and_eq_true_iff.mp h1.1
    obtain ⟨a,b,c⟩:=z8T h.2
    have hx : 0≤x∧x < (m : Int):=⟨of_decide_eq_true h2.1,of_decide_eq_true h2.2⟩
    have hp : x ∉ p:=by have:=h1.2; simpa using this
    refine ⟨fun y hy=>?_,List.nodup_cons.mpr ⟨fun z=>c x z (by simp),b⟩,fun y hy=>?_⟩
    · rcases List.mem_cons.mp hy with z | z
      · rw [z]; exact hx
      · exact a y z
    · rcases List.mem_cons.mp hy with z | z
      · rw [z]; exact hp
      · exact fun q=>c y z (by simp [q])
theorem y4F {m : Nat} : ∀ {o p : List Int},(∀ x∈o,0≤x∧x < (m : Int))->o.Nodup->(∀ x∈o,x ∉ p)->tk m p o=true
  | [],_,_,_,_=>rfl
  | x :: r,p,h1,h2,h3=>by
    have hx:=h1 x List.mem_cons_self
    have nd:=List.nodup_cons.mp h2
    have hp:=h3 x List.mem_cons_self
    have ih:=y4F (m:=m) (o:=r) (p:=p ++ [x]) (fun y hy=>h1 y (List.mem_cons_of_mem _ hy)) nd.2 fun y hy z=>by
      rcases List.mem_append.mp z with z | z
      · exact h3 y (List.mem_cons_of_mem _ hy) z
      · rw [List.mem_singleton] at z; exact nd.1 (z ▸ hy)
    show (((decide (0≤x) && decide (x < (m : Int))) && !p.contains x) && tk m (p ++ [x]) r)=true
    have hc : p.contains x=false:=by rw [← Bool.not_eq_true,List.contains_iff_mem]; exact hp
    rw [ih,hc,decide_eq_true hx.1,decide_eq_true hx.2]
    rfl
def z2i (m : Nat) (o : List Int) : Bool:=decide ((o.length : Int)=(m : Int)) && tk m [] o
theorem z9s {p : List Int} {x : Int} : inK (.int x) (z7p p)=some (p.contains x):=by
  show some (z9O (p.map Sum.inl) (.inl x))=_
  congr 1
  unfold z9O
  rw [List.any_map,List.contains_eq_any_beq]
  congr 1
  funext y
  show decide ((Sum.inl y : Key)=Sum.inl x)=(x == y)
  by_cases h : y=x
  · subst h; simp
  · have h1 : decide ((Sum.inl y : Key)=Sum.inl x)=false:=decide_eq_false fun z=>h (by cases z; rfl)
    have h2 : (x == y)=false:=by rw [beq_eq_false_iff_ne]; exact fun z=>h z.symm
    rw [h1,h2]
theorem z6O {i : Nat} {b : SS->Option Out} {m : Nat} {d : D} (J : List Int->SS->Prop) : ∀ {o p : List Int} {s : SS},p.length + o.length≤1000000->J p s →
    (∀ p x s,p.length≤1000000->J p s->hol (b (s.set i (some (.sh (.int x))))) fun r=>if (((decide (0≤x) && decide (x < (m : Int))) && !p.contains x))=true then ∃ s',r = .nx s'∧J (p ++ [x]) s' else r = .rt d) →
    hol (z3R i b (o.map .int) s) fun r=>if tk m p o=true then ∃ s' p',r = .nx s'∧J p' s' else r = .rt d
  | [],p,s,_,h0,_=>⟨_,rfl,(if_pos rfl).mpr ⟨s,p,rfl,h0⟩⟩
  | x :: r,p,s,hn,h0,hs=>by
    have hn : p.length + (r.length + 1)≤1000000:=hn
    obtain ⟨o,e,q⟩:=hs p x s (by omega) h0
    rw [List.map_cons]
    unfold z3R
    rw [e]
    show hol _ fun q=>if (((decide (0≤x) && decide (x < (m : Int))) && !p.contains x) && tk m (p ++ [x]) r)=true then _ else _
    cases hc : ((decide (0≤x) && decide (x < (m : Int))) && !p.contains x) with
    | true=>
      rw [hc,if_pos rfl] at q
      obtain ⟨s1,rfl,h1⟩:=q
      rw [Bool.true_and]
      exact z6O J (by simp; omega) h1 hs
    | false=>
      rw [hc,if_neg Bool.false_ne_true] at q
      subst q
      rw [Bool.false_and]
      exact ⟨_,rfl,(if_neg Bool.false_ne_true).mpr rfl⟩
theorem z7G {m : Nat} {o : List Int} (hl : o.length≤1000) : z0w [y1p o,.int (m : Int)]=some (.bl (z2i m o)):=by
  refine z2c rfl ?_
  have t0 : D.dct [] []=z7p []:=rfl
  unfold z2i
  cases hd : decide ((o.length : Int)=(m : Int)) with
  | false=>
    simp_all! only [z1c,y3Q,hd,z0i]
  | true=>
    simp_all! only [z1c,y3Q,hd,t0,seq_ord]
    obtain ⟨r,e,q⟩:=z6O (i:=3) (m:=m) (d:=.bl false) (b:=(z0W (ifO (y1m (z3K (z1T (z0k z1Z [(z0d 3),(z0d 1)]))) (y5z (z0d 3) (z0d 2))) (z3d (dC (.bl false))) z1Y) (dput 2 (z0d 3) (dC (.bl true))))) (fun p s=>∃ o3,s=[some (.sh (y1p o)),some (.sh (.int (m : Int))),some (.ow (z7p p)),o3]) (o:=o) (p:=[]) (s:=[some (.sh (y1p o)),some (.sh (.int (m : Int))),some (.ow (z7p [])),none]) (by simp; omega) ⟨_,rfl⟩ (by
      rintro p x s hp ⟨o3,rfl⟩
      have th:=y6q x m
      cases h1 : (decide (0≤x) && decide (x < (m : Int))) with
      | false=>
        rw [h1] at th
        simp_all! only [th,z0i,Bool.false_eq_true,if_false]
      | true=>
        rw [h1] at th
        cases h2 : p.contains x with
        | true=>
          simp_all! only [th,z9s,h2,z0i,Bool.false_eq_true,if_false]
        | false=>
          have hx : x ∉ p:=fun z=>by rw [List.contains_iff_mem.mpr z] at h2; cases h2
          simp_all! only [th,z9s,h2,y6a hx hp,z0i,if_true]
          exact ⟨_,rfl,_,rfl⟩)
    rw [e]
    cases hk : tk m [] o with
    | true=>
      rw [hk,if_pos rfl] at q
      obtain ⟨s',p',rfl,o3,rfl⟩:=q
      simp_all! only [z0i]
    | false=>
      rw [hk,if_neg Bool.false_ne_true] at q
      subst q
      simp_all! only [z0i]
theorem y0L {m : Nat} {o : List Int} (h : o.Perm (y5v m)) : z2i m o=true:=by
  have hl : o.length=m:=by have:=h.length_eq; simpa [y5v] using this
  unfold z2i
  rw [hl,decide_eq_true rfl,y4F (fun x hx=>y6L (h.mem_iff.mp hx)) (h.nodup_iff.mpr z6q) fun _ _ z=>by cases z]
  rfl
/-- what comes of votes: BadBallot first,then Even -/
theorem y1j {m : Nat} (hm : m≤1000) {bs : List (Int × List Int)} (hl : bs.length≤1000000) (g : ∀ b∈bs,b.2.length≤1000∧z2i m b.2=true) : z2Z [z7n bs,.int (m : Int)]=some (if z6p bs % 2=0 then .exc 2 else .val .non):=by
  have vo:=y5k bs hl
  have dm2 : z4H (.int (z6p bs)) (.int 2)=some (.int (z6p bs % 2)):=z3y (by omega)
  have loop : hol (z3R 2 (ifO (z3K (z1T (z0k z0w [(d2 ixD (z0d 2) (dC (.int 1))),(z0d 1)]))) (z3V 1 (dC (.str "the order of a ballot does not tell each thing once and nothing else"))) z1Y) (bs.map z3i) [some (.sh (z7n bs)),some (.sh (.int (m : Int))),none]) fun o=>∃ s,o = .nx s∧∃ o2,s=[some (.sh (z7n bs)),some (.sh (.int (m : Int))),o2]:=by
    refine z5g (fun pre s=>∃ o2,s=[some (.sh (z7n bs)),some (.sh (.int (m : Int))),o2]) ⟨_,rfl⟩ ?_ fun s z=>⟨s,rfl,z⟩
    rintro pre b post e s ⟨o2,rfl⟩
    have hb:=g b (by rw [e]; simp)
    have t:=z7G (m:=m) hb.1
    rw [hb.2] at t
    simp_all! only [z6C,t,z0i]
    exact ⟨_,rfl⟩
  by_cases hz : z6p bs % 2=0
  · rw [if_pos hz]
    refine z6J rfl ?_
    have d0 : decide (z6p bs % 2=0)=true:=decide_eq_true hz
    simp! only [z5m,z6s]
    refine z1M loop ?_
    rintro s ⟨o2,rfl⟩
    simp! only [vo,dm2,d0,z0i]
    exact ⟨_,rfl⟩
  · rw [if_neg hz]
    refine runX_nx rfl ?_
    have d0 : decide (z6p bs % 2=0)=false:=decide_eq_false hz
    simp! only [z5m,z6s]
    refine z1M loop ?_
    rintro s ⟨o2,rfl⟩
    simp! only [vo,dm2,d0,z0i]
    exact ⟨_,rfl⟩
theorem y2i {m : Nat} (hm : m≤1000) {bs : List (Int × List Int)} (hl : ∀ b∈bs,b.2.length≤1000) {b : Int × List Int} (hb : b∈bs) (hbad : z2i m b.2=false) : z2Z [z7n bs,.int (m : Int)]=some (.exc 1):=by
  refine z6J rfl ?_
  simp! only [z5m,z6s]
  have loop : ∀ {cs : List (Int × List Int)} {s : SS},(∀ b∈cs,b.2.length≤1000)->b∈cs->(∃ o2,s=[some (.sh (z7n bs)),some (.sh (.int (m : Int))),o2])->hol (z3R 2 (ifO (z3K (z1T (z0k z0w [(d2 ixD (z0d 2) (dC (.int 1))),(z0d 1)]))) (z3V 1 (dC (.str "the order of a ballot does not tell each thing once and nothing else"))) z1Y) (cs.map z3i) s) fun o=>∃ s,o = .ex 1 s:=by
    intro cs
    induction cs with
    | nil=>intro s _ h _; cases h
    | cons c r ih=>
      rintro s hl hm ⟨o2,rfl⟩
      have t:=z7G (m:=m) (hl c List.mem_cons_self)
      rw [List.map_cons]
      unfold z3R
      cases hc : z2i m c.2 with
      | false=>
        rw [hc] at t
        simp_all! only [z6C,t,Option.bind_some]
        exact ⟨_,rfl,_,rfl⟩
      | true=>
        rw [hc] at t
        simp_all! only [z6C,t,Option.bind_some]
        refine ih (fun b hb=>hl b (List.mem_cons_of_mem _ hb)) ?_ ⟨_,rfl⟩
        rcases List.mem_cons.mp hm with z | z
        · rw [z,hc] at hbad; cases hbad
        · exact z
  obtain ⟨o,e,s,rfl⟩:=loop hl hb ⟨_,rfl⟩
  rw [e]
  simp! only [z0i]
  exact ⟨_,rfl⟩


theorem z5l {m : Nat} {o : List Int} (h : o.length≠m) : z2i m o=false:=by
  unfold z2i
  rw [decide_eq_false (by omega),Bool.false_and]
theorem y1H {m : Nat} {o : List Int} {x : Int} (hx : x∈o) (h : x < 0∨(m : Int)≤x) : z2i m o=false:=by
  rw [← Bool.not_eq_true]
  intro z
  have:=(z8T (Bool.and_eq_true_iff.mp z).2).1 x hx
  omega
theorem z9e {m : Nat} {o : List Int} (h : ¬ o.Nodup) : z2i m o=false:=by
  rw [← Bool.not_eq_true]
  exact fun z=>h (z8T (Bool.and_eq_true_iff.mp z).2).2.1

/-! votes on a line -/
abbrev Bl:=Int × List Nat
def iO (o : List Nat) : List Int:=o.map fun n=>((n : Nat) : Int)
def tb (b : Bl) : Int × List Int:=(b.1,iO b.2)
def blD (vs : List Bl) : D:=z7n (vs.map tb)
theorem y8s {o : List Nat} : y1p (iO o)=ttD o:=by
  show D.tup ((iO o).map .int)=D.tup (o.map nD)
  rw [z7i]
  rfl
theorem y1X {o : List Nat} {m : Nat} (h : o.Perm (List.range m)) : (iO o).Perm (y5v m):=h.map _
theorem y0E {v : Int} {o : List Nat} : D.tup [.int v,ttD o]=z3i (tb (v,o)):=by
  show _=D.tup [.int v,y1p (iO o)]
  rw [y8s]

/-! line_of where every line is barred -/
theorem vt_bal {b : Int × List Nat} : vtD b=z3i (tb b):=y0E
theorem vt_vot {bs : List (Int × List Nat)} : D.lst (bs.map vtD)=z7n (bs.map tb):=by
  unfold z7n
  rw [List.map_map]
  refine congrArg D.lst (List.map_congr_left fun b _=>vt_bal)
def y8M (bs : List (Int × List Nat)) : Int:=(bs.map (·.1)).sum
theorem y9e {bs : List (Int × List Nat)} : z6p (bs.map tb)=y8M bs:=by
  unfold z6p y8M
  rw [List.map_map]
  rfl
theorem y0q {bs : List (Int × List Nat)} (hb : bs.length≤900) {m : Nat} (hm : m≤8) (hp : ∀ b∈bs,b.2.Perm (List.range m)) : z2Z [.lst (bs.map vtD),.int (m : Int)]=some (if y8M bs % 2=0 then .exc 2 else .val .non):=by
  rw [vt_vot,y1j (by omega) (by rw [List.length_map]; omega) fun c hc=>by
    obtain ⟨b,hbb,rfl⟩:=List.mem_map.mp hc
    refine ⟨?_,y0L (y1X (hp b hbb))⟩
    show (iO b.2).length≤1000
    unfold iO
    rw [List.length_map,z1k (hp b hbb)]
    omega,y9e]

theorem y6P {np nl : Nat} {b : SS->Option Out} {ds : List D} {Q : XO->Prop} (hl : ds.length=np) (h : hol (b (ds.map (fun d=>some (.sh d)) ++ List.replicate nl none)) fun o=>∃ d,o = .rt d∧Q (.val d)) : hol (y0C np nl b ds) Q:=by
  obtain ⟨o,e,d,rfl,q⟩:=h
  refine ⟨.val d,?_,q⟩
  unfold y0C
  rw [if_pos hl,e]
/-! line_of where a line fits -/
theorem y3D {bs : List (Int × List Nat)} (h1 : 0 < bs.length) (hb : bs.length≤900) {m : Nat} (h0 : 0 < m) (hm : m≤8) (hp : ∀ b∈bs,b.2.Perm (List.range m)) (ho : y8M bs % 2≠0) {l : List Nat} (hl : l.Perm (List.range m)) (hf : ∀ b∈bs,liB b.2 l=true) :
    ∃ l0 : List Nat,z1a [.lst (bs.map vtD),.int (m : Int)]=some (.val (.tup [.str "line",thD l0]))∧l0.Perm (List.range m)∧∀ b∈bs,liB b.2 l0=true:=by
  suffices h : hol (z1a [.lst (bs.map vtD),.int (m : Int)]) fun o=>∃ l0 : List Nat,o = .val (.tup [.str "line",thD l0])∧l0.Perm (List.range m)∧∀ b∈bs,liB b.2 l0=true by
    obtain ⟨_,e,l0,rfl,q⟩:=h
    exact ⟨l0,e,q⟩
  refine y6P rfl ?_
  have ak:=y0q hb hm hp
  rw [if_neg ho] at ak
  obtain ⟨b0,rest,rfl⟩ : ∃ b0 rest,bs=b0 :: rest:=by
    cases bs with
    | nil=>simp at h1
    | cons b r=>exact ⟨b,r,rfl⟩
  have hp0:=hp b0 List.mem_cons_self
  have ml:=z1k hp0
  obtain ⟨x,r,exr⟩ : ∃ x r,b0.2=x :: r:=by
    cases h : b0.2 with
    | nil=>rw [h] at ml; simp at ml; omega
    | cons x r=>exact ⟨x,r,rfl⟩
  have rl : r.length≤7:=by rw [exr] at ml; simp at ml; omega
  have ndx : (x :: r).Nodup:=by rw [← exr]; exact z5k hp0
  have pl : (x :: r).Perm l:=by rw [← exr]; exact hp0.trans hl.symm
  have lhas : l∈lnF x r:=ln_has pl (by
    rw [← y5H ndx fun y hy=>pl.mem_iff.mp hy,← exr]
    exact hf b0 List.mem_cons_self)
  have i0 : ixD (.lst ((b0 :: rest).map vtD)) (.int 0)=some (vtD b0):=y0d (k:=0) rfl
  have i1 : ixD (vtD b0) (.int 1)=some (ttD b0.2):=z0Z (j:=1) rfl
  have ib : ∀ b : Int × List Nat,ixD (vtD b) (.int 1)=some (ttD b.2):=fun b=>z0Z (j:=1) rfl
  have ct : y4q (some (.lst ((b0 :: rest).map vtD))) (some (some 1)) (some none)=some (rest.map vtD):=by
    show some (z3s ((b0 :: rest).map vtD) (some ((1 : Nat) : Int)) none)=_
    rw [z2S]
    rfl
  have lf:=z8F (x:=x) rl
  rw [← exr] at lf
  obtain ⟨vv,hvv⟩ : ∃ q,q=D.lst ((b0 :: rest).map vtD):=⟨_,rfl⟩
  rw [← hvv] at ak i0 ct ⊢
  simp! only [z3a,ak,i0,i1,lf,ct]
  have lpm : ∀ l∈lnF x r,l.Perm (List.range m):=fun l hl=>(ln_ok ndx hl).1.trans (by rw [← exr]; exact hp0)
  have len0 : (lnF x r).length≤128:=by
    unfold lnF
    rw [y3J]
    have : 2 ^ r.length≤2 ^ 7:=Nat.pow_le_pow_right (by omega) rl
    simpa using this
  refine z1M (I:=fun s=>∃ (L : List (List Nat)) (o3 : Option SD),s=[some (.sh vv),some (.sh (.int (m : Int))),some (.sh (.lst (L.map thD))),o3]∧(∀ l∈L,l∈lnF x r∧∀ b∈rest,liB b.2 l=true)∧l∈L) ?_ ?_
  · refine z5g (enc:=vtD) (fun pre s=>∃ (L : List (List Nat)) (o3 : Option SD),s=[some (.sh vv),some (.sh (.int (m : Int))),some (.sh (.lst (L.map thD))),o3]∧L.length≤128∧(∀ l∈L,l∈lnF x r∧∀ b∈pre,liB b.2 l=true)∧l∈L) ⟨lnF x r,none,rfl,len0,fun l hl=>⟨hl,fun b hb=>nomatch hb⟩,lhas⟩ ?_ fun s ⟨L,o3,z,_,y⟩=>⟨s,rfl,L,o3,z,y⟩
    rintro pre b post e s ⟨L,o3,rfl,hLl,hL,hlL⟩
    have hbm : b∈b0 :: rest:=List.mem_cons_of_mem _ (by rw [e]; simp)
    have hpb:=hp b hbm
    simp! only []
    rw [cx_of (enc:=thD) (fun l=>liB b.2 l) thD (by omega) (fun l hl=>by
      have lp:=lpm l (hL l hl).1
      simp! only [ib,lies_eq (a:=b.2) (l:=l) (by rw [z1k hpb]; omega) fun y hy=>lp.mem_iff.mpr (hpb.mem_iff.mp hy)]) fun l _ _=>by simp! only []]
    simp! only [z0i]
    refine ⟨L.filter fun l=>liB b.2 l,_,rfl,Nat.le_trans (List.length_filter_le _ _) hLl,fun l hl=>?_,List.mem_filter.mpr ⟨hlL,hf b hbm⟩⟩
    obtain ⟨q1,q2⟩:=List.mem_filter.mp hl
    refine ⟨(hL l q1).1,fun c hc=>?_⟩
    rcases List.mem_append.mp hc with w | w
    · exact (hL l q1).2 c w
    · rw [List.mem_singleton.mp w]; exact q2
  · rintro s ⟨L,o3,rfl,hL,hlL⟩
    obtain ⟨l0,L',eL⟩ : ∃ l0 L',L=l0 :: L':=by
      cases L with
      | nil=>exact nomatch hlL
      | cons a b=>exact ⟨a,b,rfl⟩
    obtain ⟨q1,q2⟩:=hL l0 (by rw [eL]; simp)
    have ix : ixD (.lst (L.map thD)) (.int 0)=some (thD l0):=y0d (k:=0) (by rw [eL]; rfl)
    have ix2 : atI (L.map thD) 0=some (thD l0):=ix
    have ne : (L.map thD).isEmpty=false:=by rw [eL]; rfl
    simp_all! only [ne,ix,ix2,z0i]
    refine ⟨_,rfl,l0,rfl,lpm l0 q1,fun b hb=>?_⟩
    rcases List.mem_cons.mp hb with w | w
    · rw [w,exr]
      obtain ⟨g1,g2⟩:=ln_ok ndx q1
      exact md_li ndx g1.symm g2
    · exact q2 b w

theorem y0l {a b : List (Int × List Nat)} (h : a.length + b.length≤1000000) : z7H (some (.lst (a.map vtD))) (some (.lst (b.map vtD)))=some ((a ++ b).map vtD):=by
  rw [y3g (by rw [List.length_map,List.length_map]; exact h),List.map_append]
theorem imv (bs : List (Int × List Nat)) : z1l (bs.map vtD)=true:=y0f fun d hd=>by
  obtain ⟨b,_,rfl⟩:=List.mem_map.mp hd
  show (true && ((z1l (b.2.map nD)) && true))=true
  rw [y2B]
  rfl

theorem ref_bal {d1 d2 : D} (h : z1a [d1,d2]=some (.exc 1)) : z0r [d1,d2]=some (.str "ballot"):=by
  refine z2c rfl ?_
  have x1 : z8A ["BadBallot"] ["Even", "BadBallot"] (.exc "BadBallot")=some (.bl true):=rfl
  have x2 : z8A ["Even"] ["Even", "BadBallot"] (.exc "BadBallot")=some (.bl false):=rfl
  have f1 : z7E [.bl true]=some (.int 1):=rfl
  have f2 : z7E [.bl false]=some (.int 0):=rfl
  have i0 : atI [D.str "other",.str "ballot",.str "even",.str "odd"] 1=some (.str "ballot"):=rfl
  have i1 : ixD (.lst [D.str "other",.str "ballot",.str "even",.str "odd"]) (.int 1)=some (.str "ballot"):=rfl
  have mu : mulI (.int 2) (.int 0)=some (.int 0):=rfl
  simp_all! only [z1I,h,x1,x2,f1,f2,mu,Int.add_zero,i0,i1,z0i]
theorem y6o {d1 d2 : D} (h : z1a [d1,d2]=some (.exc 2)) : z0r [d1,d2]=some (.str "even"):=by
  refine z2c rfl ?_
  have x1 : z8A ["BadBallot"] ["Even", "BadBallot"] (.exc "Even")=some (.bl false):=rfl
  have x2 : z8A ["Even"] ["Even", "BadBallot"] (.exc "Even")=some (.bl true):=rfl
  have f1 : z7E [.bl true]=some (.int 1):=rfl
  have f2 : z7E [.bl false]=some (.int 0):=rfl
  have i0 : atI [D.str "other",.str "ballot",.str "even",.str "odd"] 2=some (.str "even"):=rfl
  have i1 : ixD (.lst [D.str "other",.str "ballot",.str "even",.str "odd"]) (.int 2)=some (.str "even"):=rfl
  have mu : mulI (.int 2) (.int 1)=some (.int 2):=rfl
  simp_all! only [z1I,h,x1,x2,f1,f2,mu,Int.zero_add,i0,i1,z0i]
theorem z7t {bs : List (Int × List Nat)} (hb : bs.length≤900) {m : Nat} (hm : m≤8) (hp : ∀ b∈bs,b.2.Perm (List.range m)) (he : y8M bs % 2=0) : z0r [.lst (bs.map vtD),.int (m : Int)]=some (.str "even"):=by
  refine y6o (z6J rfl ?_)
  have ak:=y0q hb hm hp
  rw [if_pos he] at ak
  simp! only [z3a,ak,z0i]
  exact ⟨_,rfl⟩

def Fi (l a : List Nat) (lo hi : Nat) : Prop:=∃ p r,a=p :: r∧∀ ext : List Int,ftG ((ixO l p : Nat) : Int) ((ixO l p : Nat) : Int) (pls r l ++ ext)=ftG (lo : Int) ((hi : Int) - 1) ext
theorem getD_ix {l : List Nat} (nd : l.Nodup) {k : Nat} (hk : k < l.length) : ixO l (l.getD k 0)=k:=by
  have e : l.getD k 0=l[k]:=by simp [List.getD,List.getElem?_eq_getElem hk]
  rw [e]
  exact z7W nd hk
theorem fi_one {l : List Nat} (nd : l.Nodup) {w : Nat} (hw : w < l.length) : Fi l [l[w]] w (w + 1):=by
  refine ⟨_,[],rfl,fun ext=>?_⟩
  rw [z7W nd hw]
  show ftG (w : Int) (w : Int) ext=_
  congr 1
  omega
theorem fi_down {l a : List Nat} (nd : l.Nodup) {lo hi : Nat} (h0 : 0 < lo) (h1 : lo≤l.length) (h : Fi l a lo hi) : Fi l (a ++ [l[lo - 1]]) (lo - 1) hi:=by
  obtain ⟨p,r,rfl,h⟩:=h
  refine ⟨p,r ++ [l[lo - 1]],rfl,fun ext=>?_⟩
  have e : pls (r ++ [l[lo - 1]]) l ++ ext=pls r l ++ (((lo - 1 : Nat) : Int) :: ext):=by
    unfold pls
    rw [List.map_append,List.append_assoc]
    show _ ++ (((ixO l l[lo - 1] : Nat) : Int) :: ext)=_
    rw [z7W nd (by omega)]
  rw [e,h]
  show (if ((lo - 1 : Nat) : Int)=(lo : Int) - 1 then ftG ((lo - 1 : Nat) : Int) ((hi : Int) - 1) ext else _)=_
  rw [if_pos (by omega)]
theorem fi_up {l a : List Nat} (nd : l.Nodup) {lo hi : Nat} (h0 : lo≤hi) (h1 : hi < l.length) (h : Fi l a lo hi) : Fi l (a ++ [l.getD hi 0]) lo (hi + 1):=by
  obtain ⟨p,r,rfl,h⟩:=h
  refine ⟨p,r ++ [l.getD hi 0],rfl,fun ext=>?_⟩
  have e : pls (r ++ [l.getD hi 0]) l ++ ext=pls r l ++ ((hi : Int) :: ext):=by
    unfold pls
    rw [List.map_append,List.append_assoc]
    show _ ++ (((ixO l (l.getD hi 0) : Nat) : Int) :: ext)=_
    rw [getD_ix nd h1]
  rw [e,h]
  show (if (hi : Int)=(lo : Int) - 1 then _ else if (hi : Int)=(hi : Int) - 1 + 1 then ftG (lo : Int) (hi : Int) ext else false)=_
  rw [if_neg (by omega),if_pos (by omega)]
  congr 1
  omega
theorem fi_end {l a : List Nat} {lo hi : Nat} (h : Fi l a lo hi) : ftB a l=true:=by
  obtain ⟨p,r,rfl,h⟩:=h
  have:=h []
  rw [List.append_nil] at this
  exact this
theorem y3r (c : Int) {m : Nat} (hm : m≤64) (h0 : 0 < m) {l : List Nat} (hl : l.length=m) (nd : l.Nodup) : hol (z1h [.int c,thD l]) fun d=>∃ a : List Nat,d=thD a∧a.length=m∧a.Perm l∧ftB a l=true:=by
  refine z8S rfl ?_
  obtain ⟨w,ew,hw⟩:=z5L (x:=c) (n:=m) h0
  have f1 : z4H (.int c) (.int (m : Int))=some (.int (w : Int)):=by rw [z3y (by omega),ew]
  have f2 : z9M (.int c) (.int (m : Int))=some (.int (c / (m : Int))):=z7r ⟨by omega,by omega⟩
  have i1 : ixD (thD l) (.int (w : Int))=some (nD (l.getD w 0)):=z6H (by omega)
  have fl1 : z4r (some [nD (l.getD w 0)])=some [nD (l.getD w 0)]:=rfl
  have t1 : D.lst [nD (l.getD w 0)]=thD [l.getD w 0]:=rfl
  have gm : ∀ k,k < m->l.getD k 0∈l:=fun k hk=>by simp [List.getD,List.getElem?_eq_getElem (show k < l.length by omega)]
  simp! only [z2u,z9X,hl,f1,f2,i1,fl1,t1]
  refine z1M (I:=fun s=>∃ (a : List Nat) (o0 o2 o3 : Option SD),s=[o0,some (.sh (thD l)),o2,o3,some (.ow (thD a))]∧a.length=m∧a.Perm l∧ftB a l=true) ?_ ?_
  · refine z5J (fun n s=>∃ (a : List Nat) (c' : Int) (lo hi : Nat),s=[some (.sh (.int c')),some (.sh (thD l)),some (.sh (.int (lo : Int))),some (.sh (.int (hi : Int))),some (.ow (thD a))]∧a.length + lo=hi∧hi≤m∧a.length + n=m∧a.Perm ((l.drop lo).take (hi - lo))∧Fi l a lo hi) (n:=m - 1) ⟨[l.getD w 0],_,w,w + 1,rfl,by simp; omega,by omega,by simp; omega,by
        have eg : l.getD w 0=l[w]'(by omega):=by simp [List.getD,List.getElem?_eq_getElem (show w < l.length by omega)]
        rw [show w + 1 - w=1 by omega,List.drop_eq_getElem_cons (show w < l.length by omega),eg]
        exact ⟨List.Perm.refl _,fi_one nd (by omega)⟩⟩ ?_ (by omega)
    rintro n s ⟨a,c',lo,hi,rfl,h1,h2,h3,h4,h5⟩
    refine ⟨decide ((a.length : Int) < (m : Int)),by simp! only [z9X,hl],fun hz=>?_,fun hz=>?_⟩
    · have hz:=of_decide_eq_false hz
      have h0 : lo=0:=by omega
      have hm2 : hi=m:=by omega
      rw [h0,hm2,List.drop_zero,Nat.sub_zero,← hl,List.take_length] at h4
      exact ⟨_,rfl,a,_,_,_,rfl,by omega,h4,fi_end h5⟩
    · have hz:=of_decide_eq_true hz
      refine ⟨n - 1,by omega,?_⟩
      obtain ⟨r,g1⟩ : ∃ r : Int,z4H (.int c') (.int 2)=some (.int r):=⟨_,z3y (by omega)⟩
      have g2 : z9M (.int c') (.int 2)=some (.int (c' / 2)):=z7r ⟨by omega,by omega⟩
      have down : ∀ (hlo : 0 < lo),hol (z5p (z0W (z3J 2 (d2 y5w (z0d 2) (dC (.int 1)))) (m0 4 z5W [d2 ixD (z0d 1) (z0d 2)]) [some (.sh (.int c')),some (.sh (thD l)),some (.sh (.int (lo : Int))),some (.sh (.int (hi : Int))),some (.ow (thD a))]) (z3J 0 (d2 z9M (z0d 0) (dC (.int 2))))) fun o=>match o with
          | .nx s=>∃ (a : List Nat) (c' : Int) (lo hi : Nat),s=[some (.sh (.int c')),some (.sh (thD l)),some (.sh (.int (lo : Int))),some (.sh (.int (hi : Int))),some (.ow (thD a))]∧a.length + lo=hi∧hi≤m∧a.length + (n - 1)=m∧a.Perm ((l.drop lo).take (hi - lo))∧Fi l a lo hi
          | _=>False:=fun hlo=>by
        have e : (lo : Int) - 1=((lo - 1 : Nat) : Int):=by omega
        have i2 : ixD (thD l) (.int ((lo - 1 : Nat) : Int))=some (nD (l.getD (lo - 1) 0)):=z6H (by omega)
        have im : z6I (some [nD (l.getD (lo - 1) 0)])=some [nD (l.getD (lo - 1) 0)]:=rfl
        have ap : m0V z5W (some (thD a)) (some [nD (l.getD (lo - 1) 0)])=some (thD (a ++ [l.getD (lo - 1) 0])):=y0b (by omega)
        simp! only [e,i2,im,ap,g2,z0i]
        refine ⟨_,_,_,_,rfl,by simp; omega,h2,by simp; omega,?_⟩
        have eg : l.getD (lo - 1) 0=l[lo - 1]'(by omega):=by simp [List.getD,List.getElem?_eq_getElem (show lo - 1 < l.length by omega)]
        rw [eg,List.drop_eq_getElem_cons (show lo - 1 < l.length by omega),show hi - (lo - 1)=(hi - lo) + 1 by omega,List.take_succ_cons,show lo - 1 + 1=lo by omega]
        exact ⟨(List.perm_append_singleton _ _).trans (h4.cons _),fi_down nd (by omega) (by omega) h5⟩
      have up : ∀ (hhi : hi < m),hol (z5p (z0W (m0 4 z5W [d2 ixD (z0d 1) (z0d 3)]) (z3J 3 (d2 z6j (z0d 3) (dC (.int 1)))) [some (.sh (.int c')),some (.sh (thD l)),some (.sh (.int (lo : Int))),some (.sh (.int (hi : Int))),some (.ow (thD a))]) (z3J 0 (d2 z9M (z0d 0) (dC (.int 2))))) fun o=>match o with
          | .nx s=>∃ (a : List Nat) (c' : Int) (lo hi : Nat),s=[some (.sh (.int c')),some (.sh (thD l)),some (.sh (.int (lo : Int))),some (.sh (.int (hi : Int))),some (.ow (thD a))]∧a.length + lo=hi∧hi≤m∧a.length + (n - 1)=m∧a.Perm ((l.drop lo).take (hi - lo))∧Fi l a lo hi
          | _=>False:=fun hhi=>by
        have e : (hi : Int) + 1=((hi + 1 : Nat) : Int):=by omega
        have i2 : ixD (thD l) (.int (hi : Int))=some (nD (l.getD hi 0)):=z6H (by omega)
        have im : z6I (some [nD (l.getD hi 0)])=some [nD (l.getD hi 0)]:=rfl
        have ap : m0V z5W (some (thD a)) (some [nD (l.getD hi 0)])=some (thD (a ++ [l.getD hi 0])):=y0b (by omega)
        simp! only [i2,im,ap,e,g2,z0i]
        refine ⟨_,_,_,_,rfl,by simp; omega,by omega,by simp; omega,?_⟩
        have eg : (l.drop lo).take (hi + 1 - lo)=(l.drop lo).take (hi - lo) ++ [l.getD hi 0]:=by
          rw [show hi + 1 - lo=(hi - lo) + 1 by omega,List.take_succ,List.getElem?_drop,show lo + (hi - lo)=hi by omega]
          simp [List.getD,List.getElem?_eq_getElem (show hi < l.length by omega)]
        rw [eg]
        exact ⟨h4.append_right _,fi_up nd (by omega) (by omega) h5⟩
      have weak : ∀ {x : Option Out} {P : SS->Prop} {Q : Out->Prop},hol x (fun o=>match o with | .nx s=>P s | _=>False)->(∀ s,P s->Q (.nx s))->hol x Q:=fun {x P Q} h k=>by
        obtain ⟨o,rfl,q⟩:=h
        cases o with
        | nx s=>exact ⟨_,rfl,k s q⟩
        | _=>exact q.elim
      have cnd : (y1m (z0P (d2 eqD (z0d 3) (z0k z3E [z0d 1]))) (y1k (z0P (d2 gtI (z0d 2) (dC (.int 0)))) (z0P (d2 eqD (d2 z4H (z0d 0) (dC (.int 2))) (dC (.int 1)))))) (z0o [some (.sh (.int c')),some (.sh (thD l)),some (.sh (.int (lo : Int))),some (.sh (.int (hi : Int))),some (.ow (thD a))])=some (decide ((hi : Int)=(m : Int)) || (decide ((lo : Int) > 0) && decide (r=1))):=by simp! only [z9X,hl,g1]
      rw [z8H,y2h,cnd]
      cases hb : (decide ((hi : Int)=(m : Int)) || (decide ((lo : Int) > 0) && decide (r=1))) with
      | true=>
        rw [z8B]
        refine weak (down ?_) fun s z=>z
        rcases Bool.or_eq_true_iff.mp hb with z | z
        · have:=of_decide_eq_true z
          omega
        · have:=of_decide_eq_true (Bool.and_eq_true_iff.mp z).1
          omega
      | false=>
        rw [z8M]
        refine weak (up ?_) fun s z=>z
        have:=of_decide_eq_false (Bool.or_eq_false_iff.mp hb).1
        omega
  · rintro s ⟨a,o0,o2,o3,rfl,h1,h2⟩
    simp! only [z0i]
    exact ⟨_,rfl,a,rfl,h1,h2⟩

def GB (m : Nat) (l : List Nat) (b : Bl) : Prop:=b.2.Perm (List.range m)∧0≤b.1∧liB b.2 l=true
theorem y8d : ∀ {n k : Nat},ftG 0 (k : Int) ((List.range' (k + 1) n).map fun i=>((i : Nat) : Int))=true
  | 0,k=>rfl
  | n + 1,k=>by
    show (if (((k + 1 : Nat)) : Int)=0 - 1 then _ else if ((k + 1 : Nat) : Int)=(k : Int) + 1 then ftG 0 ((k + 1 : Nat) : Int) ((List.range' (k + 1 + 1) n).map fun i=>((i : Nat) : Int)) else false)=true
    rw [if_neg (by omega),if_pos (by omega)]
    exact y8d
theorem li_self {m : Nat} (h0 : 0 < m) {l : List Nat} (hp : l.Perm (List.range m)) : liB l l=true:=by
  have nd:=z5k hp
  have hl:=z1k hp
  rw [y5H nd fun x hx=>hx]
  have e : pls l l=(List.range m).map fun i=>((i : Nat) : Int):=by
    unfold pls
    apply List.ext_getElem
    · simp [hl]
    · intro i h1 h2
      rw [List.getElem_map,List.getElem_map,List.getElem_range]
      have hi : i < l.length:=by simpa using h1
      rw [z7W nd hi]
  unfold ftB
  rw [e]
  obtain ⟨n,rfl⟩ : ∃ n,m=n + 1:=⟨m - 1,by omega⟩
  rw [List.range_eq_range']
  exact y8d (n:=n) (k:=0)
theorem y3x (ns : List Int) (hns : ns.length≤63) {m : Nat} (hm : m≤8) (h0 : 0 < m) {l : List Nat} (hp : l.Perm (List.range m)) : hol (z1S [.scr ns,.int (m : Int),thD l]) fun d=>∃ vs : List Bl,d=blD vs∧vs≠[]∧vs.length≤800∧(∀ b∈vs,GB m l b)∧z6p (vs.map tb) % 2=1:=by
  refine z8S rfl ?_
  obtain ⟨cs,ecs,hcs⟩:=y6l ns (some 3) (some 43)
  obtain ⟨c2,e2⟩:=z6r ns 2
  have e2 : z0q [.scr ns,.int 2]=some (.int c2):=e2
  have p30 : powI (.int 10) (.int 30)=some (.int (10 ^ 30)):=pow_lit 30 (by omega)
  have d30 : ∀ x : Int,z4H (.int x) (.int (10 ^ 30 - 1))=some (.int (x % (10 ^ 30 - 1))):=fun x=>z3y (by omega)
  have v4 : ∀ x : Int,z9M (.int x) (.int 40320)=some (.int (x / 40320)):=fun x=>z7r ⟨by omega,by omega⟩
  have d4 : ∀ x : Int,z4H (.int x) (.int 40320)=some (.int (x % 40320)):=fun x=>z3y (by omega)
  have d2 : ∀ x : Int,z4H (.int x) (.int 2)=some (.int (x % 2)):=fun x=>z3y (by omega)
  have nl : D.lst []=blD []:=rfl
  have tt : ∀ o : List Nat,y1P [thD o]=some (ttD o):=fun o=>rfl
  have lnb : ∀ vs : List Bl,z3E [blD vs]=some (.int (vs.length : Int)):=fun vs=>by
    show z3E [z7n (vs.map tb)]=_
    rw [len_vot,List.length_map]
  have sqb : ∀ vs : List Bl,y1r (blD vs)=some ((vs.map tb).map z3i):=fun vs=>rfl
  have apb : ∀ {vs : List Bl} {b : Bl},vs.length≤1000000->m0V z5W (some (blD vs)) (some [z3i (tb b)])=some (blD (vs ++ [b])):=fun {vs b} h=>by
    have:=y6d (bs:=vs.map tb) (b:=tb b) (by rw [List.length_map]; exact h)
    show _=some (z7n ((vs ++ [b]).map tb))
    rw [List.map_append]
    exact this
  have imb : ∀ b : Bl,z6I (some [z3i (tb b)])=some [z3i (tb b)]:=fun b=>z9A (y0A [tb b])
  simp! only [z2Y,ecs,y0D,nl]
  refine z1M (I:=fun s=>∃ (vs : List Bl) (o5 : Option SD),s=[some (.sh (.scr ns)),some (.sh (.int (m : Int))),some (.sh (thD l)),some (.ow (blD vs)),o5]∧vs.length=cs.length∧∀ b∈vs,GB m l b) ?_ ?_
  · refine z5g (enc:=D.int) (fun pre s=>∃ (vs : List Bl) (o5 : Option SD),s=[some (.sh (.scr ns)),some (.sh (.int (m : Int))),some (.sh (thD l)),some (.ow (blD vs)),o5]∧vs.length=pre.length∧∀ b∈vs,GB m l b) ⟨[],_,rfl,rfl,(fun _ h=>nomatch h)⟩ ?_ fun s z=>⟨s,rfl,z⟩
    rintro pre x post e s ⟨vs,o5,rfl,hvl,hg⟩
    have hpl : pre.length≤63:=by have:=congrArg List.length e; rw [List.length_append] at this; omega
    obtain ⟨_,f2,q,rfl,_,hq,hft⟩:=y3r (x % 40320) (m:=m) (by omega) h0 (l:=l) (z1k hp) (z5k hp)
    have hq2 : q.Perm (List.range m):=hq.trans hp
    have hli : liB q l=true:=by rw [y5H (z5k hq2) fun z hz=>hq.mem_iff.mp hz]; exact hft
    simp_all! only [v4,d4,f2,p30,d30,tt,y0E,imb,apb (show vs.length≤1000000 by omega),z0i]
    refine ⟨_,_,rfl,by simp [hvl],fun b hb=>?_⟩
    rcases List.mem_append.mp hb with z | z
    · exact hg b z
    · rw [List.mem_singleton.mp z]
      exact ⟨hq2,by show 0≤1 + x / 40320 % (10 ^ 30 - 1); omega,hli⟩
  · rintro s ⟨vs,o5,rfl,hvl,hg⟩
    have fin : ∀ {vs : List Bl} {s : SS},(∃ o5 : Option SD,s=[some (.sh (.scr ns)),some (.sh (.int (m : Int))),some (.sh (thD l)),some (.ow (blD vs)),o5])->vs≠[]->vs.length≤800->(∀ b∈vs,GB m l b)->hol (z5p (ifO (z0P (L2.d2 eqD (L2.d2 z4H (z0k sumF [(mkL (z1X (z4G (z0d 3)) z8y (L2.d2 ixD (z0d 5) (dC (.int 0)))))]) (dC (.int 2))) (dC (.int 0)))) (st0 3 (dC (.int 0)) (mkT (z0j [(L2.d2 z6j (L2.d2 ixD (L2.d2 ixD (z0d 3) (dC (.int 0))) (dC (.int 0))) (dC (.int 1))),(L2.d2 ixD (L2.d2 ixD (z0d 3) (dC (.int 0))) (dC (.int 1)))]))) z1Y s) (y5y 3)) fun o=>∃ d,o = .rt d∧∃ vs : List Bl,d=blD vs∧vs≠[]∧vs.length≤800∧(∀ b∈vs,GB m l b)∧z6p (vs.map tb) % 2=1:=by
      rintro vs s ⟨o5,rfl⟩ hne hl hg
      have cx : z5P (some ((vs.map tb).map z3i)) (z5U z8y (L2.d2 ixD (z0d 5) (dC (.int 0))) [some (.scr ns),some (.int (m : Int)),some (thD l),some (blD vs),o5.map SD.val])=some (((vs.map tb).map (·.1)).map .int):=by
        rw [z7y (enc:=z3i) (fun b=>D.int b.1) (by rw [List.length_map]; omega) fun b hb=>by simp! only [y4s]]
        simp only [List.map_map]
        rfl
      have sv : ((vs.map tb).map (·.1)).sum=z6p (vs.map tb):=rfl
      by_cases hz : z6p (vs.map tb) % 2=0
      · have dz : decide (z6p (vs.map tb) % 2=0)=true:=decide_eq_true hz
        obtain ⟨b,r,hv⟩ : ∃ b r,vs=b :: r:=by
          cases vs with
          | nil=>exact absurd rfl hne
          | cons b r=>exact ⟨b,r,rfl⟩
        have i0 : ixD (blD vs) (.int 0)=some (z3i (tb b)):=by rw [hv]; exact z9w
        have j0 : ixD (z3i (tb b)) (.int 0)=some (.int b.1):=rfl
        have j1 : ixD (z3i (tb b)) (.int 1)=some (ttD b.2):=by rw [z6C]; show some (y1p (iO b.2))=_; rw [y8s]
        have st : st0V (some (blD vs)) (some (.int 0)) (some (z3i (tb (b.1 + 1,b.2))))=some (blD ((b.1 + 1,b.2) :: r)):=by
          rw [hv]
          show ((ixN ((b :: r).map tb |>.map z3i).length 0).map fun k=>D.lst (((b :: r).map tb |>.map z3i).set k (z3i (tb (b.1 + 1,b.2)))))=_
          rw [show ixN ((b :: r).map tb |>.map z3i).length 0=some 0 from ixN_nat (by simp)]
          rfl
        have im : z7o (some (z3i (tb (b.1 + 1,b.2))))=some (z3i (tb (b.1 + 1,b.2))):=eo_imm (y2R _)
        simp! only [sqb,cx,y3q,sv,d2,dz,i0,j0,j1,y0E,im,st,z0i]
        rw [hv] at hl hg hz
        refine ⟨_,rfl,_,rfl,by simp,by simp at hl ⊢; omega,fun c hc=>?_,?_⟩
        · rcases List.mem_cons.mp hc with z | z
          · rw [z]
            have g:=hg b List.mem_cons_self
            exact ⟨g.1,by show 0≤b.1 + 1; have:=g.2.1; omega,g.2.2⟩
          · exact hg c (List.mem_cons_of_mem _ z)
        · have e1 : z6p ((b :: r).map tb)=b.1 + z6p (r.map tb):=rfl
          have e2 : z6p ((((b.1 + 1,b.2) : Bl) :: r).map tb)=b.1 + 1 + z6p (r.map tb):=rfl
          rw [e1] at hz
          rw [e2]
          omega
      · have dz : decide (z6p (vs.map tb) % 2=0)=false:=decide_eq_false hz
        simp! only [sqb,cx,y3q,sv,d2,dz,z0i]
        exact ⟨_,rfl,vs,rfl,hne,by omega,hg,by omega⟩
    by_cases hz : vs.length=0
    · have hv : vs=[]:=List.length_eq_zero_iff.mp hz
      subst hv
      have d0 : decide ((([] : List Bl).length : Int)=0)=true:=rfl
      simp! only [lnb,d0,e2,p30,d30,tt,y0E,imb,apb (show ([] : List Bl).length≤1000000 by simp),List.nil_append]
      have:=fin (vs:=[((1 + c2 % (10 ^ 30 - 1),l) : Bl)]) ⟨z8g 3 o5,rfl⟩ (by simp) (by simp) fun b hb=>by
        rw [List.mem_singleton] at hb
        rw [hb]
        exact ⟨hp,by show 0≤1 + c2 % (10 ^ 30 - 1); omega,li_self h0 hp⟩
      simp! only [] at this
      exact this
    · have d0 : decide ((vs.length : Int)=0)=false:=decide_eq_false (by omega)
      simp! only [lnb,d0]
      have:=fin (vs:=vs) ⟨o5,rfl⟩ (fun z=>hz (by rw [z]; rfl)) (by omega) hg
      simp! only [] at this
      exact this

theorem y7c {o : List Nat} : y4q (some (thD o)) (some none) (some (some (-1)))=some ((o.take (o.length - 1)).map nD):=by
  show some (z3s (o.map nD) none (some (-1)))=_
  unfold z3s
  rw [y6c,show HT.sIx (o.map nD).length 0 none=0 from rfl,List.drop_zero,Nat.sub_zero,List.length_map,List.map_take]
theorem cut_one {o : List Nat} : y4q (some (thD o)) (some (some 1)) (some none)=some ((o.drop 1).map nD):=by
  show some (z3s (o.map nD) (some ((1 : Nat) : Int)) none)=_
  rw [z2S,List.map_drop]
theorem cut_12 {o : List Nat} : y4q (some (thD o)) (some (some 1)) (some (some 2))=some (((o.drop 1).take 1).map nD):=by
  show some (z3s (o.map nD) (some ((1 : Nat) : Int)) (some ((2 : Nat) : Int)))=_
  unfold z3s
  rw [z8K,z8K,List.length_map]
  rw [← List.map_drop,← List.map_take]
  congr 2
  by_cases h : 2≤o.length
  · rw [Nat.min_eq_left h,Nat.min_eq_left (show 1≤o.length by omega)]
  · by_cases h1 : o.length=1
    · rw [h1]; simp [List.drop_of_length_le (show o.length≤1 by omega)]
    · have : o=[]:=List.length_eq_zero_iff.mp (by omega)
      subst this
      rfl
theorem z8u {o : List Nat} : (iO o).length=o.length:=by simp [iO]
theorem y5f {m : Nat} {o : List Nat} (h : ¬ o.Nodup) : z2i m (iO o)=false:=z9e fun z=>h (by
  unfold iO at z
  rw [List.Nodup,List.pairwise_map] at z
  exact z.imp fun h e=>h (by rw [e]))
/-- the ways to spoil -/
def spv (o : List Nat) (m : Nat) : Nat->List Nat
  | 0=>o.take (o.length - 1)
  | 1=>o ++ [o.getD 0 0]
  | 2=>o.drop 1 ++ [m]
  | _=>(o.drop 1).take 1 ++ o.drop 1
theorem spv_bad {m : Nat} {o : List Nat} (h : o.Perm (List.range m)) (h0 : 0 < m) (k : Nat) : z2i m (iO (spv o m k))=false:=by
  have hl:=z1k h
  match k with
  | 0=>exact z5l (by rw [z8u]; show (o.take (o.length - 1)).length≠m; rw [List.length_take]; omega)
  | 1=>exact z5l (by rw [z8u]; show (o ++ [o.getD 0 0]).length≠m; rw [List.length_append]; simp; omega)
  | 2=>exact y1H (x:=(m : Int)) (List.mem_map.mpr ⟨m,by show m∈o.drop 1 ++ [m]; simp,rfl⟩) (.inr (Int.le_refl _))
  | k + 3=>
    show z2i m (iO ((o.drop 1).take 1 ++ o.drop 1))=false
    cases e : o.drop 1 with
    | nil=>exact z5l (by have:=congrArg List.length e; rw [List.length_drop] at this; simp at this; rw [z8u]; simp; omega)
    | cons y r=>exact y5f (fun z=>by simp at z)
theorem spv_len {m : Nat} {o : List Nat} (hl : o.length≤8) (k : Nat) : (spv o m k).length≤16:=by
  match k with
  | 0=>show (o.take (o.length - 1)).length≤16; rw [List.length_take]; omega
  | 1=>show (o ++ [o.getD 0 0]).length≤16; rw [List.length_append]; simp; omega
  | 2=>show (o.drop 1 ++ [m]).length≤16; rw [List.length_append,List.length_drop]; simp; omega
  | k + 3=>show ((o.drop 1).take 1 ++ o.drop 1).length≤16; rw [List.length_append,List.length_take,List.length_drop]; omega
theorem y0w {bs : List (Int × List Nat)} {m : Nat} (hm : m≤8) (hl : ∀ b∈bs,b.2.length≤16) {b : Int × List Nat} (hb : b∈bs) (hbad : z2i m (iO b.2)=false) : z0r [.lst (bs.map vtD),.int (m : Int)]=some (.str "ballot"):=by
  refine ref_bal (z6J rfl ?_)
  have ak : z2Z [.lst (bs.map vtD),.int (m : Int)]=some (.exc 1):=by
    rw [vt_vot]
    refine y2i (by omega) (fun c hc=>?_) (b:=tb b) (List.mem_map.mpr ⟨b,hb,rfl⟩) hbad
    obtain ⟨d,hd,rfl⟩:=List.mem_map.mp hc
    show (iO d.2).length≤1000
    rw [z8u]
    have:=hl d hd
    omega
  simp! only [z3a,ak,z0i]
  exact ⟨_,rfl⟩
theorem cut_tk {bs : List (Int × List Nat)} {k : Nat} (h : k≤bs.length) : y4q (some (.lst (bs.map vtD))) (some none) (some (some (k : Int)))=some ((bs.take k).map vtD):=by
  show some (z3s (bs.map vtD) none (some (k : Int)))=_
  rw [z7J (by rw [List.length_map]; exact h),List.map_take]
theorem cut_dp {bs : List (Int × List Nat)} {k : Nat} : y4q (some (.lst (bs.map vtD))) (some (some (k : Int))) (some none)=some ((bs.drop k).map vtD):=by
  show some (z3s (bs.map vtD) (some (k : Int)) none)=_
  rw [z2S,List.map_drop]
theorem neE : neD (.str "even") (.str "even")=some (.bl false):=z4p (n:=0) ⟨by decide +kernel,Nat.le_refl 0⟩ (by omega)
theorem eqB : eqD (.str "ballot") (.str "ballot")=some (.bl true):=y1K (n:=0) ⟨by decide +kernel,Nat.le_refl 0⟩ (by omega)
theorem neLn : neD (.str "line") (.str "line")=some (.bl false):=z4p (n:=0) ⟨by decide +kernel,Nat.le_refl 0⟩ (by omega)
theorem y1l {bs : List (Int × List Nat)} (h1 : 0 < bs.length) (hb : bs.length≤800) {m : Nat} (h0 : 0 < m) (hm : m≤8) (hp : ∀ b∈bs,b.2.Perm (List.range m)) (ho : y8M bs % 2≠0) (c : Int) : z1j [.lst (bs.map vtD),.int (m : Int),.int c]=some (.bl true):=by
  refine z2c rfl ?_
  obtain ⟨a,ea,ha⟩:=z5L (x:=c) (n:=bs.length) h1
  have ma : z4H (.int c) (.int (bs.length : Int))=some (.int (a : Int)):=by rw [z3y (by omega),ea]
  have v99 : z9M (.int c) (.int 99)=some (.int (c / 99)):=z7r ⟨by omega,by omega⟩
  obtain ⟨w,ew,hw⟩:=z5L (x:=c / 99) (n:=4) (by omega)
  have ew : c / 99 % 4=(w : Int):=ew
  have m4 : z4H (.int (c / 99)) (.int 4)=some (.int (w : Int)):=by rw [z3y (by omega),ew]
  obtain ⟨b,hbb⟩ : ∃ b,b=bs[a]:=⟨_,rfl⟩
  have hbm : b∈bs:=by rw [hbb]; exact List.getElem_mem _
  have hpb:=hp b hbm
  have iv : ixD (.lst (bs.map vtD)) (.int (a : Int))=some (vtD b):=y0d (by rw [List.getElem?_eq_getElem ha,hbb])
  have ib0 : ixD (vtD b) (.int 0)=some (.int b.1):=z0Z (j:=0) rfl
  have ib1 : ixD (vtD b) (.int 1)=some (ttD b.2):=z0Z (j:=1) rfl
  have lt : z4A [ttD b.2]=some (b.2.map nD):=rfl
  have lb : z3E [.lst (bs.map vtD)]=some (.int (bs.length : Int)):=len_map
  have tt : ∀ o : List Nat,y1P [thD o]=some (ttD o):=fun o=>rfl
  have hbl:=z1k hpb
  have x0 : ixD (thD b.2) (.int 0)=some (nD (b.2.getD 0 0)):=z6H (k:=0) (by omega)
  have c1 : z7H (some (thD b.2)) (some (.lst [nD (b.2.getD 0 0)]))=some ((spv b.2 m 1).map nD):=by
    show z7H (some (thD b.2)) (some (thD [b.2.getD 0 0]))=_
    rw [z7Z (by simp; omega)]
    rfl
  have c2 : z7H (some (thD (b.2.drop 1))) (some (.lst [.int (m : Int)]))=some ((spv b.2 m 2).map nD):=by
    show z7H (some (thD (b.2.drop 1))) (some (thD [m]))=_
    rw [z7Z (by simp; omega)]
    rfl
  have c3 : z7H (some (thD ((b.2.drop 1).take 1))) (some (thD (b.2.drop 1)))=some ((spv b.2 m 3).map nD):=by
    rw [z7Z (by simp; omega)]
    rfl
  have c0 : y4q (some (thD b.2)) (some none) (some (some (-1)))=some ((spv b.2 m 0).map nD):=y7c
  have pick : ixL (.lst [thD (spv b.2 m 0),thD (spv b.2 m 1),thD (spv b.2 m 2),thD (spv b.2 m 3)]) (.int (w : Int))=some (thD (spv b.2 m w)):=by
    show atI _ _=_
    rcases w with _ | _ | _ | _ | w
    · exact z0Z (j:=0) rfl
    · exact z0Z (j:=1) rfl
    · exact z0Z (j:=2) rfl
    · exact z0Z (j:=3) rfl
    · omega
  have e1 : (a : Int) + 1=((a + 1 : Nat) : Int):=by omega
  have ct:=cut_tk (bs:=bs) (k:=a) (by omega)
  have cd:=cut_dp (bs:=bs) (k:=a + 1)
  obtain ⟨sp,hsp⟩ : ∃ q,q=bs.take a ++ [(b.1,spv b.2 m w)] ++ bs.drop (a + 1):=⟨_,rfl⟩
  have spl : sp.length≤801:=by rw [hsp,List.length_append,List.length_append,List.length_take,List.length_drop]; simp; omega
  have g1 : z7H (some (.lst ((bs.take a).map vtD))) (some (.lst [.tup [.int b.1,ttD (spv b.2 m w)]]))=some ((bs.take a ++ [(b.1,spv b.2 m w)]).map vtD):=y0l (b:=[(b.1,spv b.2 m w)]) (by rw [List.length_take]; simp; omega)
  have g2 : z7H (some (.lst ((bs.take a ++ [(b.1,spv b.2 m w)]).map vtD))) (some (.lst ((bs.drop (a + 1)).map vtD)))=some (sp.map vtD):=by
    rw [hsp]
    exact y0l (by rw [List.length_append,List.length_take,List.length_drop]; simp; omega)
  have fs : z4r (some (sp.map vtD))=some (sp.map vtD):=z5C (imv sp)
  have fm : z4r (some [.tup [.int 1,ttD b.2]])=some [.tup [.int 1,ttD b.2]]:=z5C (imv [(1,b.2)])
  have cs2 : z7H (some (.lst (sp.map vtD))) (some (.lst [.tup [.int 1,ttD b.2]]))=some ((sp ++ [(1,b.2)]).map vtD):=y0l (b:=[(1,b.2)]) (by simp; omega)
  have cs3 : z7H (some (.lst (bs.map vtD))) (some (.lst [.tup [.int 1,ttD b.2]]))=some ((bs ++ [(1,b.2)]).map vtD):=y0l (b:=[(1,b.2)]) (by simp; omega)
  have bl8 : ∀ d∈bs,d.2.length≤16:=fun d hd=>by rw [z1k (hp d hd)]; omega
  have sp8 : ∀ d∈sp,d.2.length≤16:=fun d hd=>by
    rw [hsp] at hd
    rcases List.mem_append.mp hd with z | z
    · rcases List.mem_append.mp z with z | z
      · exact bl8 d (List.mem_of_mem_take z)
      · rw [List.mem_singleton.mp z]; exact spv_len (by omega) w
    · exact bl8 d (List.mem_of_mem_drop z)
  have bad : (b.1,spv b.2 m w)∈sp:=by rw [hsp]; simp
  have badl:=spv_bad hpb h0 w
  have rf1:=y0w hm sp8 bad badl
  have rf2:=y0w (bs:=sp ++ [(1,b.2)]) hm (fun d hd=>by
    rcases List.mem_append.mp hd with z | z
    · exact sp8 d z
    · rw [List.mem_singleton.mp z]; exact bl8 b hbm) (List.mem_append_left _ bad) badl
  have rf3:=z7t (bs:=bs ++ [(1,b.2)]) (by rw [List.length_append]; simp; omega) hm (fun d hd=>by
    rcases List.mem_append.mp hd with z | z
    · exact hp d z
    · rw [List.mem_singleton.mp z]; exact hpb) (by
    unfold y8M at ho ⊢
    rw [List.map_append,List.sum_append]
    simp
    omega)
  have rf4 : z0r [.lst [],.int (m : Int)]=some (.str "even"):=z7t (bs:=[]) (by simp) hm (fun _ h=>nomatch h) rfl
  obtain ⟨s0,hs0⟩ : ∃ q,q=spv b.2 m 0:=⟨_,rfl⟩
  obtain ⟨s1,hs1⟩ : ∃ q,q=spv b.2 m 1:=⟨_,rfl⟩
  obtain ⟨s2,hs2⟩ : ∃ q,q=spv b.2 m 2:=⟨_,rfl⟩
  obtain ⟨s3,hs3⟩ : ∃ q,q=spv b.2 m 3:=⟨_,rfl⟩
  rw [← hs0] at c0 pick
  rw [← hs1] at c1 pick
  rw [← hs2] at c2 pick
  rw [← hs3] at c3 pick
  obtain ⟨vv,hvv⟩ : ∃ q,q=D.lst (bs.map vtD):=⟨_,rfl⟩
  rw [← hvv] at iv lb ct cd cs3 ⊢
  simp_all! only [z2t,lb,ma,iv,ib1,ib0,lt,z6v,y8P,c0,x0,c1,cut_one,c2,cut_12,c3,v99,m4,pick,tt,e1,ct,cd,g1,g2,fs,fm,cs2,cs3,rf1,rf2,rf3,rf4,neE,eqB,z0i]
theorem y6u {bs : List (Int × List Nat)} (hb : bs.length≤900) {m : Nat} (h0 : 0 < m) (hm : m≤8) (hp : ∀ b∈bs,b.2.Perm (List.range m)) {l : List Nat} (hl : l.Perm (List.range m)) (hf : ∀ b∈bs,liB b.2 l=true) : z0N [.lst (bs.map vtD),.int (m : Int),thD l]=some (.bl true):=by
  refine z2c rfl ?_
  have ll:=z1k hl
  have il : isF "list" (thD l)=true:=rfl
  have nm : neD (.int (m : Int)) (.int (m : Int))=some (.bl false):=z4p z6V (by omega)
  have lt : z3E [thD l]=some (.int (m : Int)):=by rw [z9X,ll]
  have so : z8W [thD l]=some ((List.range m).map nD):=by
    have e : thD l = .lst ((iO l).map .int):=by unfold thD; rw [z7i]; rfl
    rw [e,y5Q (by rw [z8u]; omega)]
    have : z8U (iO l)=y5v m:=by
      refine (y1O (y1X hl).symm ?_).symm
      unfold y5v
      rw [List.pairwise_map]
      exact List.pairwise_lt_range.imp fun h=>by omega
    rw [this,z7i]
    rfl
  have sm:=y5U (ds:=(List.range m).map nD) (by simp; omega)
  have rn : rng1 (some (.int (m : Int)))=some (z3L 0 m):=z9D (by omega)
  have nl : neD (.lst ((List.range m).map nD)) (.lst ((List.range m).map nD))=some (.bl false):=z4p (y8G (List.range m)) (by omega)
  have ib : ∀ b : Int × List Nat,ixD (vtD b) (.int 1)=some (ttD b.2):=fun b=>z0Z (j:=1) rfl
  obtain ⟨tl,htl⟩ : ∃ q,q=thD l:=⟨_,rfl⟩
  have sq : y1r tl=some (l.map nD):=by rw [htl]; rfl
  have lf : ∀ b∈bs,z1C [ttD b.2,tl]=some (.bl true):=fun b hbm=>by
    have h:=hp b hbm
    have hin : ∀ x∈b.2,x∈l:=fun x hx=>hl.mem_iff.mpr (h.mem_iff.mp hx)
    rw [htl,y1c hin (fun z=>by have:=z1k h; rw [z] at this; simp at this; omega) (by have:=z1k h; omega),← y5H (z5k h) hin,hf b hbm]
  rw [← htl] at il lt so ⊢
  simp_all! only [z1B,il,lt,nm,sq]
  refine z1M (I:=fun s=>∃ o3,s=[some (.sh (.lst (bs.map vtD))),some (.sh (.int (m : Int))),some (.sh tl),o3]) ?_ ?_
  · refine z5g (enc:=nD) (fun _ s=>∃ o3,s=[some (.sh (.lst (bs.map vtD))),some (.sh (.int (m : Int))),some (.sh tl),o3]) ⟨_,rfl⟩ ?_ fun s z=>⟨s,rfl,z⟩
    rintro pre k post _ s ⟨o3,rfl⟩
    simp_all! only [nD,y5O,z0i]
    exact ⟨_,rfl⟩
  · rintro s ⟨o3,rfl⟩
    simp_all! only [so,rn,rng_nat,sm,nl]
    rw [cx_of (enc:=vtD) (xs:=bs) (fun _=>false) vtD (by omega) (fun b hbm=>by simp_all! only [ib,lf b hbm]) fun b _ h=>by cases h]
    have e : bs.filter (fun _=>false)=[]:=List.filter_eq_nil_iff.mpr fun _ _=>Bool.false_ne_true
    rw [e]
    simp_all! only [List.map_nil,List.length_nil,z0i]
    rfl
theorem law_true (ns : List Int) (hns : ns.length≤63) : y0T [.scr ns]=some (.bl true):=by
  refine z2c rfl ?_
  obtain ⟨c0,e0⟩:=z6r ns 0
  have e0 : z0q [.scr ns,.int 0]=some (.int c0):=e0
  obtain ⟨c1,e1⟩:=z6r ns 1
  have e1 : z0q [.scr ns,.int 1]=some (.int c1):=e1
  obtain ⟨c2,e2⟩:=z6r ns 2
  have e2 : z0q [.scr ns,.int 2]=some (.int c2):=e2
  have d8 : z4H (.int c0) (.int 8)=some (.int (c0 % 8)):=z3y (by omega)
  obtain ⟨k,ek,hk⟩:=z5L (x:=c0) (n:=8) (by omega)
  have ek : c0 % 8=(k : Int):=ek
  obtain ⟨m,hm⟩ : ∃ m : Nat,1 + (k : Int)=(m : Int):=⟨1 + k,by omega⟩
  obtain ⟨_,e3,l,rfl,hp⟩:=y1Y c1 m (by omega)
  obtain ⟨_,e4,bs,rfl,hne,hvl,hg,hod⟩:=y3x ns hns (show m≤8 by omega) (show 0 < m by omega) hp
  have hbd : blD bs = .lst (bs.map vtD):=vt_vot.symm
  rw [hbd] at e4
  have hv0 : 0 < bs.length:=List.length_pos_iff.mpr hne
  have hbl : bs.length≤800:=hvl
  have hbp : ∀ b∈bs,b.2.Perm (List.range m):=fun b hb=>(hg b hb).1
  have hsum : y8M bs % 2≠0:=by rw [← y9e]; omega
  obtain ⟨l0,lo,hl0,hf0⟩:=y3D hv0 (by omega) (show 0 < m by omega) (by omega) hbp hsum hp fun b hb=>(hg b hb).2.2
  have hh:=y6u (show bs.length≤900 by omega) (show 0 < m by omega) (by omega) hbp hl0 hf0
  have hr:=y1l hv0 hbl (show 0 < m by omega) (by omega) hbp hsum c2
  have ll:=z1k hl0
  obtain ⟨x,r,exr⟩ : ∃ x r,l0=x :: r:=by
    cases l0 with
    | nil=>simp at ll; omega
    | cons x r=>exact ⟨x,r,rfl⟩
  have fb : z4r (some (bs.map vtD))=some (bs.map vtD):=z5C (imv bs)
  have lsf : z4A [.lst (bs.map vtD)]=some (bs.map vtD):=rfl
  have okv : ∀ b : Int × List Nat,okN 2 (vtD b):=fun b=>z8R fun d hd=>by
    rcases List.mem_cons.mp hd with z | z
    · rw [z]; exact y2P z6V (by omega)
    · rw [List.mem_singleton.mp z]; exact y5R fun _ _=>y1J
  have ne : neD (.lst (bs.map vtD)) (.lst (bs.map vtD))=some (.bl false):=z4p (n:=3) (y4C fun b _=>okv b) (by omega)
  have i0 : ixD (.tup [.str "line",thD l0]) (.int 0)=some (.str "line"):=z0Z (j:=0) rfl
  have i1 : ixD (.tup [.str "line",thD l0]) (.int 1)=some (thD l0):=z0Z (j:=1) rfl
  have itp : isF "tuple" (.tup [.str "line",thD l0])=true:=rfl
  have lp : z3E [.tup [.str "line",thD l0]]=some (.int 2):=rfl
  have n22 : neD (.int 2) (.int 2)=some (.bl false):=z4p z6V (by omega)
  have ll0 : z4A [thD l0]=some (l0.map nD):=rfl
  have ep : eqD (.tup [.str "line",thD l0]) (.tup [.str "line",thD l0])=some (.bl true):=y1K (n:=2) (z8R fun d hd=>by
    simp only [List.mem_cons,List.not_mem_nil,or_false] at hd
    rcases hd with rfl | rfl
    · exact y2P (n:=0) ⟨by decide +kernel,Nat.le_refl 0⟩ (by omega)
    · exact y2P (y8G l0) (by omega)) (by omega)
  have vo : ∀ d : D,valO (some (.val d))=some d:=fun _=>rfl
  obtain ⟨pp,hpp⟩ : ∃ q,q=D.tup [.str "line",thD l0]:=⟨_,rfl⟩
  have nk : ∀ o : List Nat,y4P (o.map nD)=true:=fun o=>by
    induction o with
    | nil=>rfl
    | cons a r ih=>show (true && y4P (r.map nD))=true; rw [ih]; rfl
  have nv : ∀ us : List (Int × List Nat),y4P (us.map vtD)=true:=fun us=>by
    induction us with
    | nil=>rfl
    | cons b r ih=>
      show ((true && (y4P (b.2.map nD) && true)) && y4P (r.map vtD))=true
      rw [ih,nk]
      rfl
  have hI : hdI (bs.map vtD)=false:=by
    cases bs with
    | nil=>rfl
    | cons b r=>rfl
  have kb : z4J (some (.sh (.lst (bs.map vtD))))=some (.sh (.lst (bs.map vtD))):=by
    show (if (!hdI (bs.map vtD) && y4P (bs.map vtD))=true then _ else none)=_
    rw [hI,nv]
    rfl
  have fg : ∀ h : SS->Option Out,fgT 5 (z0d 1) h [some (.sh (.scr ns)),some (.sh (.int (m : Int))),some (.ow (thD l)),some (.ow (.lst (bs.map vtD))),some (.sh (.lst (bs.map vtD))),some (.sh pp),some (.ow (thD l0))]=(h [some (.sh (.scr ns)),some (.sh (.int (m : Int))),some (.ow (thD l)),some (.ow (.lst (bs.map vtD))),some (.sh (.lst (bs.map vtD))),none,some (.ow (thD l0))]).bind fun o=>match o with | .rt d=>some (.rt d) | _=>none:=fun h=>by
    have hz : (r.map nD).length + 1 < sizeLine:=z3r (show (r.map nD).length + 1 + 1≤1000000 by rw [List.length_map]; rw [exr] at ll; simp at ll; omega)
    rw [hpp,exr]
    show (if (r.map nD).length + 1 < sizeLine then (h _).bind _ else none)=_
    rw [if_pos hz]
    simp only [List.map_cons,List.map_nil]
    rw [kb]
    rfl
  have ep2 : eqD pp (.tup [.str "line",thD l0])=some (.bl true):=by rw [hpp]; exact ep
  rw [← hpp] at lo i0 i1 itp lp
  simp_all! only [g_law,e0,e1,e2,d8,ek,hm,e3,e4,lsf,fb,z4P,lo,vo,itp,lp,n22,i0,neLn,ne,i1,hh,ll0,z6v,y8P,z0i]
  rw [fg]
  simp_all! only [z4P,lo,vo,ep2,e2,hr,Option.bind_some,z0i]

end Prg

open PySem PySem.W PyProof.Rows
set_option maxRecDepth 100000 in
set_option maxHeartbeats 0 in
theorem PySem.Challenge.cw_askorder_k54_lines_found_holds : PySem.Challenge.rw_askorder_k54_lines_found.Holds := by
  w_on; o_law; k_head; (case hw=>w_witness2)
  k_fill
  refine Prg.walk (l:=PySem.Challenge.rw_askorder_k54_lines_found) rfl rfl Prg.law_true (fun w h Y=>PySem.W.kIn_of Y) ?F
  case F=>
    intro w mg fa h KX G hmg
    refine' Prg.all_mk KX G hmg ?a_is_thing ?l_is_thing ?c_is_thing ?k_is_thing ?a_tells_each_once ?l_tells_each_once ?c_tells_each_once ?k_tells_each_once ?a_asked ?l_asked ?c_asked ?k_asked ?a_voices ?l_voices ?c_voices ?k_voices ?a_puts_ahead ?l_puts_ahead ?c_puts_ahead ?k_puts_ahead ?a_lies_on ?l_lies_on ?c_lies_on ?k_lies_on ?a_are_side_by_side ?l_are_side_by_side ?c_are_side_by_side ?k_are_side_by_side ?a_line_of ?l_line_of ?c_line_of ?k_line_of ?a_lines_for ?l_lines_for ?c_lines_for ?k_lines_for ?a_bar_of ?l_bar_of ?c_bar_of ?k_bar_of ?a_picks ?l_picks ?c_picks ?k_picks ?a_with_one_more ?l_with_one_more ?c_with_one_more ?k_with_one_more ?a_bar_among ?l_bar_among ?c_bar_among ?k_bar_among ?a_wanted_of ?l_wanted_of ?c_wanted_of ?k_wanted_of ?a_pairs_with_last ?l_pairs_with_last ?c_pairs_with_last ?k_pairs_with_last ?a_pairs_with_between ?l_pairs_with_between ?c_pairs_with_between ?k_pairs_with_between ?a_first_places ?l_first_places ?c_first_places ?k_first_places ?a_puts_all_ahead ?l_puts_all_ahead ?c_puts_all_ahead ?k_puts_all_ahead ?a__law_cell_at ?l__law_cell_at ?c__law_cell_at ?k__law_cell_at ?a__law_whole ?l__law_whole ?c__law_whole ?k__law_whole ?a__law_order ?l__law_order ?c__law_order ?k__law_order ?a__law_on_line ?l__law_on_line ?c__law_on_line ?k__law_on_line ?a__law_fits ?l__law_fits ?c__law_fits ?k__law_fits ?a__law_votes ?l__law_votes ?c__law_votes ?k__law_votes ?a__law_line_holds ?l__law_line_holds ?c__law_line_holds ?k__law_line_holds ?a__law_refusal ?l__law_refusal ?c__law_refusal ?k__law_refusal ?a__law_refused ?l__law_refused ?c__law_refused ?k__law_refused ?a_law ?l_law ?c_law ?k_law ?x_AskError ?q_AskError ?x_BadBallot ?q_BadBallot ?x_Even ?q_Even ?e_Even_AskError ?e_BadBallot_AskError ?xb_AskError ?xb_BadBallot ?xb_Even ?t_Even_BadBallot ?t_BadBallot_BadBallot ?t_Even_Even ?t_BadBallot_Even ?z_int ?z_isinstance ?z_bool ?z_len ?z_sum ?z_max ?z_min ?z_range ?z_all ?z_tuple ?z_enumerate ?z_list ?z_sorted
    (case a_is_thing=>k_is)
    (case l_is_thing=>k_is)
    (case c_is_thing=>k_is)
    (case k_is_thing=>k_is)
    (case a_tells_each_once=>k_is)
    (case l_tells_each_once=>k_is)
    (case c_tells_each_once=>k_is)
    (case k_tells_each_once=>k_is)
    (case a_asked=>k_is)
    (case l_asked=>k_is)
    (case c_asked=>k_is)
    (case k_asked=>k_is)
    (case a_voices=>k_is)
    (case l_voices=>k_is)
    (case c_voices=>k_is)
    (case k_voices=>k_is)
    (case a_puts_ahead=>k_is)
    (case l_puts_ahead=>k_is)
    (case c_puts_ahead=>k_is)
    (case k_puts_ahead=>k_is)
    (case a_lies_on=>k_is)
    (case l_lies_on=>k_is)
    (case c_lies_on=>k_is)
    (case k_lies_on=>k_is)
    (case a_are_side_by_side=>k_is)
    (case l_are_side_by_side=>k_is)
    (case c_are_side_by_side=>k_is)
    (case k_are_side_by_side=>k_is)
    (case a_line_of=>k_is)
    (case l_line_of=>k_is)
    (case c_line_of=>k_is)
    (case k_line_of=>k_is)
    (case a_lines_for=>k_is)
    (case l_lines_for=>k_is)
    (case c_lines_for=>k_is)
    (case k_lines_for=>k_is)
    (case a_bar_of=>k_is)
    (case l_bar_of=>k_is)
    (case c_bar_of=>k_is)
    (case k_bar_of=>k_is)
    (case a_picks=>k_is)
    (case l_picks=>k_is)
    (case c_picks=>k_is)
    (case k_picks=>k_is)
    (case a_with_one_more=>k_is)
    (case l_with_one_more=>k_is)
    (case c_with_one_more=>k_is)
    (case k_with_one_more=>k_is)
    (case a_bar_among=>k_is)
    (case l_bar_among=>k_is)
    (case c_bar_among=>k_is)
    (case k_bar_among=>k_is)
    (case a_wanted_of=>k_is)
    (case l_wanted_of=>k_is)
    (case c_wanted_of=>k_is)
    (case k_wanted_of=>k_is)
    (case a_pairs_with_last=>k_is)
    (case l_pairs_with_last=>k_is)
    (case c_pairs_with_last=>k_is)
    (case k_pairs_with_last=>k_is)
    (case a_pairs_with_between=>k_is)
    (case l_pairs_with_between=>k_is)
    (case c_pairs_with_between=>k_is)
    (case k_pairs_with_between=>k_is)
    (case a_first_places=>k_is)
    (case l_first_places=>k_is)
    (case c_first_places=>k_is)
    (case k_first_places=>k_is)
    (case a_puts_all_ahead=>k_is)
    (case l_puts_all_ahead=>k_is)
    (case c_puts_all_ahead=>k_is)
    (case k_puts_all_ahead=>k_is)
    (case a__law_cell_at=>k_is)
    (case l__law_cell_at=>k_is)
    (case c__law_cell_at=>k_is)
    (case k__law_cell_at=>k_is)
    (case a__law_whole=>k_is)
    (case l__law_whole=>k_is)
    (case c__law_whole=>k_is)
    (case k__law_whole=>k_is)
    (case a__law_order=>k_is)
    (case l__law_order=>k_is)
    (case c__law_order=>k_is)
    (case k__law_order=>k_is)
    (case a__law_on_line=>k_is)
    (case l__law_on_line=>k_is)
    (case c__law_on_line=>k_is)
    (case k__law_on_line=>k_is)
    (case a__law_fits=>k_is)
    (case l__law_fits=>k_is)
    (case c__law_fits=>k_is)
    (case k__law_fits=>k_is)
    (case a__law_votes=>k_is)
    (case l__law_votes=>k_is)
    (case c__law_votes=>k_is)
    (case k__law_votes=>k_is)
    (case a__law_line_holds=>k_is)
    (case l__law_line_holds=>k_is)
    (case c__law_line_holds=>k_is)
    (case k__law_line_holds=>k_is)
    (case a__law_refusal=>k_is)
    (case l__law_refusal=>k_is)
    (case c__law_refusal=>k_is)
    (case k__law_refusal=>k_is)
    (case a__law_refused=>k_is)
    (case l__law_refused=>k_is)
    (case c__law_refused=>k_is)
    (case k__law_refused=>k_is)
    (case a_law=>k_is)
    (case l_law=>k_is)
    (case c_law=>k_is)
    (case k_law=>k_is)
    (case x_AskError=>k_is)
    (case q_AskError=>first | k_exc | kernel_rfl!)
    (case x_BadBallot=>k_is)
    (case q_BadBallot=>first | k_exc | kernel_rfl!)
    (case x_Even=>k_is)
    (case q_Even=>first | k_exc | kernel_rfl!)
    (case e_Even_AskError=>first | kts_exm | k_is | kernel_rfl!)
    (case e_BadBallot_AskError=>first | kts_exm | k_is | kernel_rfl!)
    (case xb_AskError=>first | kts_exm | k_is | kernel_rfl!)
    (case xb_BadBallot=>first | kts_exm | k_is | kernel_rfl!)
    (case xb_Even=>first | kts_exm | k_is | kernel_rfl!)
    (case t_Even_BadBallot=>first | kts_exm | k_is | kernel_rfl!)
    (case t_BadBallot_BadBallot=>first | kts_exm | k_is | kernel_rfl!)
    (case t_Even_Even=>first | kts_exm | k_is | kernel_rfl!)
    (case t_BadBallot_Even=>first | kts_exm | k_is | kernel_rfl!)
    (case z_int=>k_is)
    (case z_isinstance=>k_is)
    (case z_bool=>k_is)
    (case z_len=>k_is)
    (case z_sum=>k_is)
    (case z_max=>k_is)
    (case z_min=>k_is)
    (case z_range=>k_is)
    (case z_all=>k_is)
    (case z_tuple=>k_is)
    (case z_enumerate=>k_is)
    (case z_list=>k_is)
    (case z_sorted=>k_is)
