import PyProof.Rows.All
import Wide.All
import OpenK.AllK
import Wide.FinOn
import Lean
import PyProof.EqAt
import PyProof.EqKinds
import PyProof.TupleCall
import PySem.Challenge.RW_askorder_k68_whole_weights_by_pairings
set_option Elab.async false
set_option linter.all false
set_option maxRecDepth 100000
/-! THE HAND LAYER, for ints, bools, texts, own classes, LISTS and tuples (index, slices, in, append, pop ..), calls, loops. Paste it whole ahead of your own text; what your proof does not reach may be deleted. -/
namespace L2
open PySem PySem.Spec PyProof.Rows

/-- a key: an int or a str -/
abbrev Key := Sum Int Str
def keyIs : Key → Value → Bool
  | .inl k, v => Value.isInt k v
  | .inr x, v => Value.isStrOf x v
def keyH (w : World) : Key → Int
  | .inl k => hashInt k
  | .inr x => hashStr w x
theorem keyIs_shape : ∀ {k : Key} {v : Value}, keyIs k v = true → (∃ i t, k = Sum.inl i ∧ v = Value.int i t) ∨ (∃ x t, k = Sum.inr x ∧ v = Value.str x t)
  | .inl i, v, h => by
    obtain ⟨t, e⟩ := Value.isInt_shape (k := i) (v := v) h
    exact .inl ⟨i, t, rfl, e⟩
  | .inr x, v, h => by
    obtain ⟨t, e⟩ := Value.isStrOf_shape (x := x) (v := v) h
    exact .inr ⟨x, t, rfl, e⟩
theorem key_ll (a b : Int) : decide ((Sum.inl a : Key) = Sum.inl b) = (a == b) := by
  by_cases e : a = b
  · subst e; simp
  · have h : ¬ (Sum.inl a : Key) = Sum.inl b := fun q => e (Sum.inl.inj q)
    rw [decide_eq_false h]
    exact (beq_eq_false_iff_ne.mpr e).symm
theorem key_rr (a b : Str) : decide ((Sum.inr a : Key) = Sum.inr b) = decide (a = b) := by
  by_cases e : a = b
  · subst e; simp
  · have h : ¬ (Sum.inr a : Key) = Sum.inr b := fun q => e (Sum.inr.inj q)
    rw [decide_eq_false h, decide_eq_false e]
theorem key_lr (a : Int) (b : Str) : decide ((Sum.inl a : Key) = Sum.inr b) = false := decide_eq_false (fun q => nomatch q)
theorem key_rl (a : Str) (b : Int) : decide ((Sum.inr a : Key) = Sum.inl b) = false := decide_eq_false (fun q => nomatch q)

def mixKind (prog : Program) (w : World) : PySem.KeyKind prog w Key where
  is := keyIs
  hash := keyH w
  inj := fun v a b ha hb => by
    rcases keyIs_shape ha with ⟨i, t, rfl, rfl⟩ | ⟨x, t, rfl, rfl⟩
    · rcases keyIs_shape hb with ⟨j, u, rfl, e⟩ | ⟨y, u, rfl, e⟩
      · injection e with e1 _; rw [e1]
      · exact nomatch e
    · rcases keyIs_shape hb with ⟨j, u, rfl, e⟩ | ⟨y, u, rfl, e⟩
      · exact nomatch e
      · injection e with e1 _; rw [e1]
  byValue := fun k v h => by
    rcases keyIs_shape h with ⟨i, t, rfl, rfl⟩ | ⟨x, t, rfl, rfl⟩ <;> rfl
  pyHash := fun hv h => by
    rcases keyIs_shape hv with ⟨i, t, rfl, rfl⟩ | ⟨x, t, rfl, rfl⟩
    · exact wpAny_pyHash_int h
    · exact wpAny_pyHash_str h
  eqBool := fun hu hv h => by
    rcases keyIs_shape hu with ⟨i, t, rfl, rfl⟩ | ⟨x, t, rfl, rfl⟩
    · rcases keyIs_shape hv with ⟨j, u, rfl, rfl⟩ | ⟨y, u, rfl, rfl⟩
      · rw [key_ll] at h; exact wpAny_eqBool_int h
      · rw [key_lr] at h; exact SeqAt.EqAt.int_str i t y u _ _ _ _ h
    · rcases keyIs_shape hv with ⟨j, u, rfl, rfl⟩ | ⟨y, u, rfl, rfl⟩
      · rw [key_rl] at h; exact SeqAt.EqAt.str_int x t j u _ _ _ _ h
      · rw [key_rr] at h; exact wpAny_eqBool_str h
  «strs» := fun k x t v h => by
    rcases keyIs_shape h with ⟨i, u, rfl, e⟩ | ⟨y, u, rfl, e⟩
    · exact nomatch e
    · injection e with e1 _
      subst e1
      cases v <;> rfl

end L2

namespace L2
open PySem PySem.Spec PyProof.Rows

/-- a value, without the heap -/
inductive V where
  | non | bl (b : Bool) | int (i : Int) | str (x : Str) | byt (b : Array UInt8) | flt (b : UInt64) | ref (a : Addr) | ty (n : String)
  deriving DecidableEq

def RelV : V → Value → Prop
  | .non, u => u = Value.none
  | .bl b, u => u = Value.bool b
  | .int i, u => ∃ t, u = Value.int i t
  | .str x, u => ∃ t, u = Value.str x t
  | .byt b, u => ∃ t, u = Value.bytes b t
  | .flt b, u => ∃ t, u = Value.float b t
  | .ref a, u => u = Value.ref a
  | .ty n, u => u = Value.type n

abbrev Vals : List V → List Value → Prop := Paired RelV
theorem Vals.length {xs : List V} {us : List Value} (r : Vals xs us) : xs.length = us.length := Paired.length r
theorem Vals.get : ∀ {xs : List V} {us : List Value} {i : Nat} {x : V}, Vals xs us → xs[i]? = some x → ∃ u, us[i]? = some u ∧ RelV x u
  | _, _, _, _, .nil, e => by simp at e
  | _, _, 0, _, .cons r _, e => by simp at e; subst e; exact ⟨_, rfl, r⟩
  | _, _, i + 1, x, .cons _ t, e => by
    obtain ⟨u, h1, h2⟩ := Vals.get (i := i) (x := x) t (by simpa using e)
    exact ⟨u, by simpa using h1, h2⟩
theorem Vals.set {x : V} {u : Value} (r : RelV x u) : ∀ {xs : List V} {us : List Value} (i : Nat), Vals xs us → Vals (xs.set i x) (us.set i u)
  | _, _, _, .nil => .nil
  | _, _, 0, .cons _ t => .cons r t
  | _, _, i + 1, .cons q t => .cons q (Vals.set r i t)
theorem Vals.append : ∀ {xs ys : List V} {us ws : List Value}, Vals xs us → Vals ys ws → Vals (xs ++ ys) (us ++ ws)
  | _, _, _, _, .nil, s => s
  | _, _, _, _, .cons r t, s => .cons r (Vals.append t s)
theorem Vals.take : ∀ {xs : List V} {us : List Value} (n : Nat), Vals xs us → Vals (xs.take n) (us.take n)
  | _, _, 0, _ => .nil
  | _, _, _ + 1, .nil => .nil
  | _, _, n + 1, .cons r t => .cons r (Vals.take n t)
theorem Vals.drop : ∀ {xs : List V} {us : List Value} (n : Nat), Vals xs us → Vals (xs.drop n) (us.drop n)
  | _, _, 0, r => r
  | _, _, _ + 1, .nil => .nil
  | _, _, n + 1, .cons _ t => Vals.drop n t
theorem Vals.none_of : ∀ {xs : List V} {us : List Value} {i : Nat}, Vals xs us → xs[i]? = none → us[i]? = none := fun {xs us i} r e => by
  have h1 := r.length
  have h2 : xs.length ≤ i := List.getElem?_eq_none_iff.mp e
  exact List.getElem?_eq_none_iff.mpr (by omega)

def RelO : Option V → Option Value → Prop
  | some v, some u => RelV v u
  | none, none => True
  | _, _ => False
def KV {κ : Type} : List (κ × V) → List (κ × Value) → Prop := Paired fun (p : κ × V) (q : κ × Value) => p.1 = q.1 ∧ RelV p.2 q.2

/-- a key of a dict (00_mix): an int or a text -/
def kV : Key → V
  | .inl i => .int i
  | .inr x => .str x

/-- what stands at a tracked address -/
inductive HO where
  /-- a list -/
  | lst (xs : List V)
  /-- a tuple (never changes) -/
  | tup (xs : List V)
  /-- a dict whose keys are ints and texts; one whose keys are tuples of ints and texts (the empty one is both) -/
  | dK (kvs : List (Key × V)) | dT (kvs : List (List Key × V))
  /-- a set of ints: its members, its size -/
  | set (S : Int → Bool) (n : Nat)
  /-- an instance of the class at C, its dict at dx, its attributes -/
  | ins (C dx : Addr) (fs : List (Str × V))
  /-- the dict of the instance at x -/
  | own (x : Addr)
  /-- the dict of an exception -/
  | xd (fs : List (Str × V))
  /-- a bound method, f of x -/
  | met (f x : Addr)
  /-- a range object lo, lo + 1, .. below hi -/
  | rng (lo hi : Int)
  /-- a thing that is known to the object (the script; a dict while a loop walks it): read, never written while it is so -/
  | frz (o : Obj) (u : HO)
  /-- a code object's table -/
  | tbl (ps : Array Value)
  /-- any other thing, by what is true of its one object (a def of one's own: SetO a S n := HO.ext fun h => ..) -/
  | ext (φ : Heap → Prop)

abbrev Hp := Addr → Option HO
def upd (H : Hp) (a : Addr) (o : HO) : Hp := fun b => if b = a then some o else H b
theorem upd_same {H : Hp} {a : Addr} {o : HO} : upd H a o a = some o := by unfold upd; rw [if_pos rfl]
theorem upd_ne {H : Hp} {a b : Addr} {o : HO} (h : b ≠ a) : upd H a o b = H b := by unfold upd; rw [if_neg h]
theorem ne_of_none {H : Hp} {a b : Addr} {o : HO} (h : H a = some o) (h' : H b = none) : a ≠ b := by
  intro e; subst e; rw [h] at h'; cases h'

section
variable (P : Program) (w : World)
/-- a tuple's object, without a dict of its own -/
def TupN (h : Heap) (a : Addr) (items : Array Value) : Prop := ∃ o, h.get? a = some o ∧ (o.cls = .type "tuple" ∧ o.dict = none) ∧ ∃ n, o.data = .seq items n
theorem TupN.is {h : Heap} {a : Addr} {items : Array Value} (x : TupN h a items) : IsTup h a items := let ⟨o, e, c, n⟩ := x; ⟨o, e, c.1, n⟩
theorem TupN.lt {h : Heap} {a : Addr} {items : Array Value} (x : TupN h a items) : a < h.objs.size := x.is.lt
theorem TupN.new (h : Heap) (items : Array Value) : TupN (h.push { cls := .type "tuple", data := .seq items }) h.objs.size items := ⟨_, Heap.get?_push_size _ rfl, ⟨rfl, rfl⟩, _, rfl⟩

def ObjOk (H : Hp) (h : Heap) (a : Addr) : HO → Prop
  | .lst xs => xs.length ≤ sizeLine ∧ ∃ (its : List Value) (n : Nat), Vals xs its ∧ h.get? a = some { cls := .type "list", data := .seq its.toArray n }
  | .tup xs => xs.length ≤ sizeLine ∧ ∃ its : List Value, Vals xs its ∧ TupN h a its.toArray
  | .dK kvs => kvs.length ≤ sizeLine ∧ (a == sysModules) = false ∧ ∃ vs, KV kvs vs ∧ h.DictOf (mixKind P w) a vs
  | .dT kvs => kvs.length ≤ sizeLine ∧ (a == sysModules) = false ∧ ∃ xs : List (List Key × Addr × Value),
      Paired (fun (p : List Key × V) (q : List Key × Addr × Value) => p.1 = q.1 ∧ H q.2.1 = some (.tup (p.1.map kV)) ∧ RelV p.2 q.2.2) kvs xs ∧
      ∃ o es ep, h.get? a = some o ∧ o.ExactDict ∧ o.data = .dict es ep ∧ es.toList = xs.map (entryOfKey (tupleKind (mixKind P w))) ∧ (xs.map (·.1)).Nodup
  | .set S n => h.SetOf (intKind P w) a S n
  | .ins C dx fs => H dx = some (.own a) ∧ fs.length ≤ 1000 ∧ dx ≠ a ∧ h.get? a = some (PySem.W.instObj C dx) ∧
      ∃ mA, h.Ns1 dx mA ∧ (∀ f, RelO (fs.lookup f) (mA f)) ∧ PySem.Within mA (fs.map (·.1))
  | .own _ => ∃ o, h.get? a = some o
  | .xd fs => ∃ mA, h.Ns1 a mA ∧ ∀ f, RelO (fs.lookup f) (mA f)
  | .rng lo hi => ∃ t u v, h.get? a = some { cls := .type "range", data := .fields #[.int lo t, .int hi u, .int 1 v] }
  | .frz o u => h.get? a = some o ∧ ObjOk H h a u
  | .tbl ps => h.get? a = some { cls := .none, data := .fields ps }
  | .met f x => h.get? a = some (PySem.W.methodObj (.ref f) (.ref x))
  | .ext φ => φ h ∧ (∃ o, h.get? a = some o) ∧ ∀ h1 h2 : Heap, φ h1 → (∀ o, h1.get? a = some o → h2.get? a = some o) → φ h2
/-- the abstract heap is held -/
def HOk (H : Hp) (h : Heap) : Prop := ∀ a o, H a = some o → ObjOk P w H h a o
end

section
variable {P : Program} {w : World} {H H' : Hp} {h h' : Heap} {a : Addr} {o : HO}
theorem ObjOk.lt (x : ObjOk P w H h a o) : a < h.objs.size := by
  cases o with
  | lst xs => obtain ⟨_, _, _, _, e⟩ := x; exact Heap.lt_size e
  | tup xs => obtain ⟨_, _, _, p⟩ := x; exact p.lt
  | dK kvs => obtain ⟨_, _, _, _, o, _, _, e, _⟩ := x; exact Heap.lt_size e
  | dT kvs => obtain ⟨_, _, _, _, o, _, _, e, _⟩ := x; exact Heap.lt_size e
  | set S n => obtain ⟨o, _, _, _, e, _⟩ := x; exact Heap.lt_size e
  | ins C dx fs => obtain ⟨_, _, _, e, _⟩ := x; exact Heap.lt_size e
  | own y => obtain ⟨_, e⟩ := x; exact Heap.lt_size e
  | xd fs => obtain ⟨_, ⟨_, _, _, e, _⟩, _⟩ := x; exact Heap.lt_size e
  | rng lo hi => obtain ⟨_, _, _, e⟩ := x; exact Heap.lt_size e
  | frz ob u => obtain ⟨e, _⟩ := x; exact Heap.lt_size e
  | tbl ps => exact Heap.lt_size (show h.get? a = some _ from x)
  | met f y => exact Heap.lt_size (show h.get? a = some _ from x)
  | ext φ => obtain ⟨_, ⟨_, e⟩, _⟩ := x; exact Heap.lt_size e
theorem Paired.mapP {α β : Type} {F G : α → β → Prop} : ∀ {l₁ : List α} {l₂ : List β}, Paired F l₁ l₂ → (∀ a b, F a b → G a b) → Paired G l₁ l₂
  | _, _, .nil, _ => .nil
  | _, _, .cons r t, f => .cons (f _ _ r) (Paired.mapP t f)
/-- what an object's description leans on: its own object, its own dict, the tuples -/
theorem ObjOk.stay (x : ObjOk P w H h a o) (k : ∀ b u, (b = a ∨ H b = some (.own a)) → h.get? b = some u → h'.get? b = some u)
    (ho : ∀ b, H b = some (.own a) → H' b = some (.own a)) (ht : ∀ b xs, H b = some (.tup xs) → H' b = some (.tup xs)) : ObjOk P w H' h' a o := by
  induction o with
  | lst xs => obtain ⟨z, its, n, r, e⟩ := x; exact ⟨z, its, n, r, k _ _ (.inl rfl) e⟩
  | tup xs => obtain ⟨z, its, r, ob, e, c⟩ := x; exact ⟨z, its, r, ob, k _ _ (.inl rfl) e, c⟩
  | dK kvs => obtain ⟨z, y, vs, r, ob, es, ep, e, c⟩ := x; exact ⟨z, y, vs, r, ob, es, ep, k _ _ (.inl rfl) e, c⟩
  | dT kvs =>
    obtain ⟨z, y, xs, r, ob, es, ep, e, c⟩ := x
    exact ⟨z, y, xs, Paired.mapP r fun p q z => ⟨z.1, ht _ _ z.2.1, z.2.2⟩, ob, es, ep, k _ _ (.inl rfl) e, c⟩
  | set S n => obtain ⟨ob, es, ep, t, e, c⟩ := x; exact ⟨ob, es, ep, t, k _ _ (.inl rfl) e, c⟩
  | ins C dx fs =>
    obtain ⟨d, z, ne, e, mA, ⟨od, es, ep, e2, c⟩, r⟩ := x
    exact ⟨ho _ d, z, ne, k _ _ (.inl rfl) e, mA, ⟨od, es, ep, k _ _ (.inr d) e2, c⟩, r⟩
  | own y => obtain ⟨ob, e⟩ := x; exact ⟨ob, k _ _ (.inl rfl) e⟩
  | xd fs => obtain ⟨mA, ⟨od, es, ep, e, c⟩, r⟩ := x; exact ⟨mA, ⟨od, es, ep, k _ _ (.inl rfl) e, c⟩, r⟩
  | rng lo hi => obtain ⟨t, u, v, e⟩ := x; exact ⟨t, u, v, k _ _ (.inl rfl) e⟩
  | frz ob u ih => obtain ⟨e, q⟩ := x; exact ⟨k _ _ (.inl rfl) e, ih q⟩
  | tbl ps =>
    have e : h.get? a = some { cls := .none, data := .fields ps } := x
    show h'.get? a = some { cls := .none, data := .fields ps }
    exact k a _ (.inl rfl) e
  | met f y =>
    have e : h.get? a = some (PySem.W.methodObj (.ref f) (.ref y)) := x
    show h'.get? a = some (PySem.W.methodObj (.ref f) (.ref y))
    exact k a _ (.inl rfl) e
  | ext φ => obtain ⟨p, ⟨o, e⟩, st⟩ := x; exact ⟨st _ _ p fun o q => k _ _ (.inl rfl) q, ⟨o, k _ _ (.inl rfl) e⟩, st⟩
theorem HOk.lt (x : HOk P w H h) (e : H a = some o) : a < h.objs.size := (x a o e).lt
theorem HOk.fresh (x : HOk P w H h) (e : h.objs.size ≤ a) : H a = none := by
  cases q : H a with
  | none => rfl
  | some u => exact absurd (Nat.lt_of_lt_of_le (x.lt q) e) (Nat.lt_irrefl _)
/-- every object of the heap is kept -/
theorem HOk.kept (x : HOk P w H h) (k : ∀ b u, h.get? b = some u → h'.get? b = some u) : HOk P w H h' := fun a o e =>
  (x a o e).stay (fun b u _ q => k b u q) (fun _ q => q) fun _ _ q => q
/-- a new object is laid and tracked -/
theorem HOk.laid (x : HOk P w H h) (k : ∀ b u, h.get? b = some u → h'.get? b = some u) (hp : h.objs.size ≤ a) (new : ObjOk P w (upd H a o) h' a o) : HOk P w (upd H a o) h' := fun b u e => by
  have hn := x.fresh hp
  by_cases hb : b = a
  · subst hb; rw [upd_same] at e; cases e; exact new
  · rw [upd_ne hb] at e
    exact (x b u e).stay (fun c v _ q => k c v q) (fun c q => by rw [upd_ne (ne_of_none q hn)]; exact q) fun c xs q => by rw [upd_ne (ne_of_none q hn)]; exact q
end

/-- what may be read as u: it is u, or a known u -/
def Rd (H : Hp) (a : Addr) (u : HO) : Prop := H a = some u ∨ ∃ o, H a = some (.frz o u)
theorem Rd.of {H : Hp} {a : Addr} {u : HO} (h : H a = some u) : Rd H a u := .inl h
theorem Rd.ok {P : Program} {w : World} {H : Hp} {h : Heap} {a : Addr} {u : HO} (r : Rd H a u) (x : HOk P w H h) : ObjOk P w H h a u := by
  rcases r with r | ⟨o, r⟩
  · exact x a u r
  · obtain ⟨_, q⟩ := x a _ r
    exact q
/-- what may be written -/
def Mut : Option HO → Prop
  | some (.lst _) => True
  | some (.dK _) => True
  | some (.dT _) => True
  | some (.set _ _) => True
  | some (.ins _ _ _) => True
  | some (.ext _) => True
  | _ => False
section
variable {P : Program} {w : World} {H : Hp} {h h' : Heap} {x e : Addr} {o' : HO}
/-- the object at e is changed: x itself, or the dict of the instance x -/
theorem HOk.write (ok : HOk P w H h) (mu : Mut (H x)) (he : e = x ∨ H e = some (.own x)) (k : ∀ b u, b ≠ e → h.get? b = some u → h'.get? b = some u) (heo : ∃ u, h'.get? e = some u)
    (new : ObjOk P w (upd H x o') h' x o') : HOk P w (upd H x o') h' := fun b u q => by
  have nown : ∀ c y, H c = some (.own y) → c ≠ x := fun c y r z => by subst z; rw [r] at mu; exact mu
  have ntup : ∀ c xs, H c = some (.tup xs) → c ≠ x := fun c xs r z => by subst z; rw [r] at mu; exact mu
  by_cases hb : b = x
  · subst hb; rw [upd_same] at q; cases q; exact new
  · rw [upd_ne hb] at q
    by_cases hbe : b = e
    · have q' : H b = some (.own x) := by
        rcases he with z | z
        · exact absurd (hbe.trans z) hb
        · rw [hbe]; exact z
      rw [q] at q'; cases q'
      obtain ⟨v, hv⟩ := heo
      exact ⟨v, by rw [hbe]; exact hv⟩
    · refine (ok b u q).stay (fun c v hc r => k c v ?_ r) (fun c r => by rw [upd_ne (nown c b r)]; exact r) fun c xs r => by rw [upd_ne (ntup c xs r)]; exact r
      rcases hc with rfl | hc
      · exact hbe
      · rintro rfl
        rcases he with z | z
        · exact nown c b hc z
        · rw [hc] at z; cases z; exact hb rfl
end

/-! ### kept unless tracked; of the frames at fs (the callers') the slots may change (an exception that passes writes there); of the records at ex (iterators) nothing is said -/
structure Un (fs ex : List Addr) (H H' : Hp) (h h' : Heap) : Prop where
  keep : ∀ b o, h.get? b = some o → H b = none → b ∉ fs → b ∉ ex → h'.get? b = some o
  slot : ∀ b o, h.get? b = some o → H b = none → b ∈ fs → b ∉ ex → ∃ sl, h'.get? b = some { o with slots := sl }
  free : ∀ b o, h.get? b = some o → H b = none → b ∉ ex → H' b = none
  there : ∀ b o, h.get? b = some o → b ∉ ex → ∃ o', h'.get? b = some o'
  tups : ∀ b xs, H b = some (.tup xs) → H' b = some (.tup xs)
  frzs : ∀ b o u, H b = some (.frz o u) → H' b = some (.frz o u)
  tbls : ∀ b ps, H b = some (.tbl ps) → ∃ more, H' b = some (.tbl (ps ++ more))
section
variable {fs fs' ex ex' : List Addr} {H H1 H2 : Hp} {h h1 h2 h' : Heap} {a x e : Addr} {o : HO}
theorem Un.any (u : Un fs ex H H1 h h1) {b : Addr} {ob : Obj} (q : h.get? b = some ob) (n : H b = none) (hx : b ∉ ex) : ∃ sl, h1.get? b = some { ob with slots := sl } := by
  by_cases hb : b ∈ fs
  · exact u.slot b ob q n hb hx
  · exact ⟨ob.slots, u.keep b ob q n hb hx⟩
theorem Un.trans (a : Un fs ex H H1 h h1) (b : Un fs ex H1 H2 h1 h2) : Un fs ex H H2 h h2 where
  keep := fun c ob q n hc hx => b.keep c ob (a.keep c ob q n hc hx) (a.free c ob q n hx) hc hx
  slot := fun c ob q n hc hx => by
    obtain ⟨sl, e1⟩ := a.slot c ob q n hc hx
    obtain ⟨sl', e2⟩ := b.slot c _ e1 (a.free c ob q n hx) hc hx
    exact ⟨sl', e2⟩
  free := fun c ob q n hx => by
    obtain ⟨o', e1⟩ := a.there c ob q hx
    exact b.free c o' e1 (a.free c ob q n hx) hx
  there := fun c ob q hx => by
    obtain ⟨o', e1⟩ := a.there c ob q hx
    exact b.there c o' e1 hx
  tups := fun c xs q => b.tups c xs (a.tups c xs q)
  frzs := fun c ob xs q => b.frzs c ob xs (a.frzs c ob xs q)
  tbls := fun c ps q => by
    obtain ⟨m1, e1⟩ := a.tbls c ps q
    obtain ⟨m2, e2⟩ := b.tbls c _ e1
    exact ⟨m1 ++ m2, by rw [e2, Array.append_assoc]⟩
theorem Un.kept (k : ∀ b u, h.get? b = some u → h'.get? b = some u) : Un fs ex H H h h' :=
  ⟨fun b ob q _ _ _ => k b ob q, fun b ob q _ _ _ => ⟨ob.slots, k b ob q⟩, fun _ _ _ n _ => n, fun b ob q _ => ⟨ob, k b ob q⟩, fun _ _ q => q, fun _ _ _ q => q, fun _ ps q => ⟨#[], by rw [q]; simp⟩⟩
theorem Un.refl : Un fs ex H H h h := Un.kept fun _ _ q => q
theorem Un.laid (k : ∀ b u, h.get? b = some u → h'.get? b = some u) (hp : h.objs.size ≤ a) (hn : H a = none) : Un fs ex H (upd H a o) h h' where
  keep := fun b u q _ _ _ => k b u q
  slot := fun b u q _ _ _ => ⟨u.slots, k b u q⟩
  free := fun b u q n _ => by rw [upd_ne (Nat.ne_of_lt (Nat.lt_of_lt_of_le (Heap.lt_size q) hp))]; exact n
  there := fun b u q _ => ⟨u, k b u q⟩
  tups := fun b xs q => by rw [upd_ne (ne_of_none q hn)]; exact q
  frzs := fun b u xs q => by rw [upd_ne (ne_of_none q hn)]; exact q
  tbls := fun b ps q => ⟨#[], by rw [upd_ne (ne_of_none q hn), q]; simp⟩
theorem Un.write (mu : Mut (H x)) (he : e = x ∨ H e = some (.own x)) (k : ∀ b u, b ≠ e → h.get? b = some u → h'.get? b = some u) (heo : ∃ u, h'.get? e = some u) : Un fs ex H (upd H x o) h h' := by
  have hx : ∀ b, H b = none → b ≠ x := fun b n z => by subst z; rw [n] at mu; exact mu
  have hb : ∀ b, H b = none → b ≠ e := fun b n z => by
    subst z
    rcases he with r | r
    · exact hx b n r
    · rw [n] at r; cases r
  have hm : ∀ b u, H b = some u → ¬ Mut (some u) → b ≠ x := fun b u q nm z => by subst z; rw [q] at mu; exact nm mu
  refine ⟨fun b u q n _ _ => k b u (hb b n) q, fun b u q n _ _ => ⟨u.slots, k b u (hb b n) q⟩, fun b u q n _ => by rw [upd_ne (hx b n)]; exact n, fun b u q _ => ?_,
    fun b xs q => by rw [upd_ne (hm b _ q fun z => z)]; exact q, fun b u xs q => by rw [upd_ne (hm b _ q fun z => z)]; exact q, fun b ps q => ⟨#[], by rw [upd_ne (hm b _ q fun z => z), q]; simp⟩⟩
  by_cases hbe : b = e
  · subst hbe; exact heo
  · exact ⟨u, k b u hbe q⟩
theorem Un.mono (u : Un fs ex H H1 h h1) (hs : ∀ b ∈ fs, b ∈ fs') (hx : ∀ b ∈ ex, b ∈ ex') : Un fs' ex' H H1 h h1 :=
  ⟨fun b ob q n hb he => u.keep b ob q n (fun z => hb (hs b z)) fun z => he (hx b z), fun _ _ q n _ he => u.any q n fun z => he (hx _ z), fun b ob q n he => u.free b ob q n fun z => he (hx b z), fun b ob q he => u.there b ob q fun z => he (hx b z), u.tups, u.frzs, u.tbls⟩
end

/-! ### the heap without what is tracked -/
def trk (h : Heap) (H : Hp) : List Addr := (List.range h.objs.size).filter fun a => (H a).isSome
def hidT (h : Heap) (H : Hp) : Heap := PySem.W.hideAll h (trk h H)
theorem hidT_size (h : Heap) (H : Hp) : (hidT h H).objs.size = h.objs.size := PySem.W.hideAll_size _ _
theorem hidT_get {h : Heap} {H : Hp} {b : Addr} {o : Obj} (e : h.get? b = some o) (n : H b = none) : (hidT h H).get? b = some o :=
  PySem.W.hideAll_get _ e fun hm => by
    have q : (H b).isSome = true := (List.mem_filter.mp hm).2
    rw [n] at q; simp at q
theorem of_hidT {h : Heap} {H : Hp} {b : Addr} {o : Obj} (e : (hidT h H).get? b = some o) : h.get? b = some o ∧ H b = none := by
  have e' : h.get? b = some o := PySem.W.of_hideAll (trk h H) e
  refine ⟨e', ?_⟩
  cases q : H b with
  | none => rfl
  | some x =>
    have hm : b ∈ trk h H := List.mem_filter.mpr ⟨List.mem_range.mpr (Heap.lt_size e'), by simp [q]⟩
    have z : (hidT h H).get? b = none := PySem.W.hideAll_none (trk h H) hm
    rw [z] at e; cases e

/-! ### OpenK's ledger, filled with every new object but one -/
def allNews (g h : Heap) (L : Addr) : List (Addr × Obj) := (List.range h.objs.size).filterMap fun a => if a = L ∨ (g.get? a).isSome = true then none else (h.get? a).map fun o => (a, o)
def rest (g h : Heap) (L d : Addr) : List (Addr × Obj) := (allNews g h L).filter fun p => decide (p.1 ≠ d)
end L2

namespace L2
open PySem PySem.Spec PyProof.Rows

/-- the module's facts, over the base: the heap at the law's entry without what is tracked there -/
structure Mod (K : PySem.W.Frag) (mg : Str → Option Value) (base : Heap) : Prop where
  kin : K.In base
  glob : base.Ns mainGlobals mg
  blt : ∃ mb, base.Ns builtinsNs mb ∧ ∀ x : Str, x ≠ "__name__" → mb x = bootBuiltins x
  nolimit : base.NoLimit

/-- the context: a def's body (or a comprehension's block) running. base: fixed through the whole law; s₀, H₀: the entry; outer: the frames whose slots others may change (a def's callers); stack: all frames that run;
   ex: iterators that were made ahead of the entry and are walked here (a comprehension's); fn: the names whose cells were made at the entry (a def: all; a comprehension's block: its own); calm: not within an except suite; pn: pins that every state bears; xe: what is wanted of an exception that leaves the code -/
structure Cx where
  prog : Program
  w : World
  K : PySem.W.Frag
  mg : Str → Option Value
  base : Heap
  A : Around
  N : List Str
  s₀ : Shared
  H₀ : Hp
  env : Env
  outer : List Env
  stack : List Env
  ex : List Addr
  fn : Str → Bool
  calm : Bool
  pn : List (Addr × Obj)
  xe : Value → Shared → Prop
/-- the callers' frames -/
def frs (l : List Env) : List Addr := l.filterMap (·.frame)
abbrev Cx.fs (X : Cx) : List Addr := frs X.outer

def Vis (sc : Scope) (x : Str) : Prop := sc.names.lookup x = some .local ∨ sc.names.lookup x = some .cell ∨ sc.names.lookup x = some .free
def Loc (sc : Scope) (x : Str) : Prop := sc.names.lookup x = some .local ∨ sc.names.lookup x = some .cell
def Look (env : Env) (h : Heap) (m : Str → Option Value) (x : Str) (u : Value) : Prop :=
  (env.kindOf x = some .local ∧ m x = some u) ∨ ((env.kindOf x = some .cell ∨ env.kindOf x = some .free) ∧ ∃ c, env.cells.lookup x = some c ∧ h.IsCell c (some u))

structure Cx.Ok (X : Cx) : Prop where
  mod : Mod X.K X.mg X.base
  kind : X.env.scope.kind = .function
  glob : X.env.globals = mainGlobals
  blt : X.env.builtins = builtinsNs
  above : X.s₀.heap.objs.size ≤ X.env.locals
  inj : ∀ x y c, X.env.cells.lookup x = some c → X.env.cells.lookup y = some c → x = y
  has : ∀ x, (X.env.kindOf x = some .cell ∨ X.env.kindOf x = some .free) → ∃ c, X.env.cells.lookup x = some c
  cab : ∀ x c, X.fn x = true → X.env.cells.lookup x = some c → X.s₀.heap.objs.size ≤ c
  hd : X.calm = true → X.A.handled = none
  frames : X.A.frames = some X.stack
  stk : X.stack = X.outer ∨ (X.stack = X.env :: X.outer ∧ X.env.frame = some X.env.locals)
  exf : ∀ b ∈ X.ex, b ≠ X.env.locals ∧ ∀ x c, X.env.cells.lookup x = some c → c ≠ b
  bs : ∀ b o, X.base.get? b = some o → X.s₀.heap.get? b = some o ∧ X.H₀ b = none
  bsz : X.base.objs.size ≤ X.s₀.heap.objs.size
  noex : ∀ b o, X.base.get? b = some o → b ∉ X.ex
  exfs : ∀ b ∈ X.ex, b ∉ X.fs
  funs : X.s₀.heap.FunFrames X.base X.outer
  frf : ∀ b ∈ X.fs, X.H₀ b = none

structure Inv (X : Cx) (pins : List (Addr × Obj)) (σ : List (Option V)) (H : Hp) (s : Shared) : Prop where
  ok : X.Ok
  os : s.os = X.s₀.os
  bare : AllBare s.gens
  base : Un X.fs X.ex X.H₀ H X.s₀.heap s.heap
  loc : ∃ m, s.heap.Ns X.env.locals m ∧ ∀ (i : Nat) (x : Str) (v : V), X.N[i]? = some x → σ[i]? = some (some v) → Vis X.env.scope x → ∃ u, RelV v u ∧ Look X.env s.heap m x u
  cell : ∀ x c, X.env.cells.lookup x = some c → ∃ v, s.heap.IsCell c v
  free : H X.env.locals = none
  freeC : ∀ x c, X.env.cells.lookup x = some c → H c = none
  pin : ∀ p ∈ X.pn ++ pins, s.heap.get? p.1 = some p.2 ∧ H p.1 = none ∧ p.1 ≠ X.env.locals ∧ p.1 ∉ X.fs ∧ ∀ v, p.2.data ≠ .cell v
  hok : HOk X.prog X.w H s.heap
  len : σ.length = X.N.length

section
variable {X : Cx} {pins : List (Addr × Obj)} {σ : List (Option V)} {H H' : Hp} {s : Shared} {h' : Heap}

theorem Cx.Ok.nofr (ok : X.Ok) {b : Addr} {o : Obj} (e : X.base.get? b = some o) : b ∉ X.fs := fun hb => by
  have := (ok.funs.mem hb).1
  rw [e] at this; cases this
theorem Inv.bs (I : Inv X pins σ H s) : ∀ b o, X.base.get? b = some o → s.heap.get? b = some o ∧ H b = none := fun b o e =>
  ⟨I.base.keep b o (I.ok.bs b o e).1 (I.ok.bs b o e).2 (I.ok.nofr e) (I.ok.noex b o e), I.base.free b o (I.ok.bs b o e).1 (I.ok.bs b o e).2 (I.ok.noex b o e)⟩
theorem Inv.bk (I : Inv X pins σ H s) : ∀ b o, X.base.get? b = some o → s.heap.get? b = some o := fun b o e => (I.bs b o e).1
theorem Inv.mod (I : Inv X pins σ H s) : Mod X.K X.mg X.base := I.ok.mod
theorem Inv.kIn (I : Inv X pins σ H s) : X.K.In s.heap := I.ok.mod.kin.keeps I.bk
theorem Inv.nolimit (I : Inv X pins σ H s) : s.heap.NoLimit := I.ok.mod.nolimit.keeps I.bk
/-- the frame over the base: for OpenK's rules (K.In X.base is I.mod.kin) -/
theorem Inv.fr (I : Inv X pins σ H s) : ∃ m, Fr X.base X.env.locals s.heap m :=
  let ⟨m, hn, _⟩ := I.loc
  ⟨m, hn, I.bk, Nat.le_trans I.ok.bsz I.ok.above⟩
theorem Inv.lt (I : Inv X pins σ H s) : X.env.locals < s.heap.objs.size := let ⟨_, hn, _⟩ := I.loc; hn.lt
theorem Inv.sz (I : Inv X pins σ H s) : X.s₀.heap.objs.size ≤ s.heap.objs.size := Nat.le_trans I.ok.above (Nat.le_of_lt I.lt)
theorem Inv.nofs (I : Inv X pins σ H s) {a : Addr} (h : s.heap.objs.size ≤ a) : a ∉ X.fs := fun hb => by
  obtain ⟨_, o, ho, _⟩ := I.ok.funs.mem hb
  exact absurd (Nat.lt_of_lt_of_le (Heap.lt_size ho) (Nat.le_trans I.sz h)) (Nat.lt_irrefl _)
theorem Inv.cne (I : Inv X pins σ H s) : ∀ x c, X.env.cells.lookup x = some c → c ≠ X.env.locals := fun x c e z => by
  obtain ⟨v, o, ho, hd⟩ := I.cell x c e
  obtain ⟨m, ⟨o', es, ep, ho', hd', _⟩, _⟩ := I.loc
  rw [z, ho'] at ho; cases ho; rw [hd'] at hd; cases hd
theorem Inv.funs (I : Inv X pins σ H s) : s.heap.FunFrames X.base X.outer := by
  have all : ∀ (l : List Env), (∀ b ∈ frs l, b ∈ X.fs) → X.s₀.heap.FunFrames X.base l → s.heap.FunFrames X.base l := by
    intro l
    induction l with
    | nil => intro _ _; trivial
    | cons env r ih =>
      intro hs hl
      obtain ⟨hk, ⟨L, o, hf, hn, ho, hd⟩, hr⟩ := hl
      have hL : L ∈ X.fs := hs L (by unfold frs; rw [List.filterMap_cons, hf]; exact List.mem_cons_self)
      obtain ⟨sl, e⟩ := I.base.slot L o ho (I.ok.frf L hL) hL fun z => I.ok.exfs L z hL
      exact ⟨hk, ⟨L, _, hf, hn, e, hd⟩, ih (fun b hb => hs b (by unfold frs; rw [List.filterMap_cons, hf]; exact List.mem_cons_of_mem _ hb)) hr⟩
  exact all X.outer (fun _ hb => hb) I.ok.funs

/-- the frames that run, for a call -/
theorem Inv.stack (I : Inv X pins σ H s) : s.heap.FunFrames X.base X.stack := by
  rcases I.ok.stk with e | ⟨e, hf⟩
  · rw [e]; exact I.funs
  · rw [e]
    obtain ⟨m, hn, _⟩ := I.loc
    refine .cons (by rw [I.ok.kind]; decide) hf hn ?_ I.funs
    exact Heap.get?_none_of_le (Nat.le_trans I.ok.bsz I.ok.above)
theorem Inv.stkSub (I : Inv X pins σ H s) : ∀ b ∈ frs X.stack, b ∈ X.env.locals :: X.fs := fun b hb => by
  rcases I.ok.stk with e | ⟨e, hf⟩
  · rw [e] at hb; exact List.mem_cons_of_mem _ hb
  · rw [e] at hb
    unfold frs at hb
    rw [List.filterMap_cons, hf] at hb
    exact hb
theorem Inv.stkFree (I : Inv X pins σ H s) : ∀ b ∈ frs X.stack, H b = none := fun b hb => by
  rcases List.mem_cons.mp (I.stkSub b hb) with e | hb
  · rw [e]; exact I.free
  · obtain ⟨_, o, ho, _⟩ := I.ok.funs.mem hb
    exact I.base.free b o ho (I.ok.frf b hb) fun z => I.ok.exfs b z hb

/-- THE STEP: the untracked objects but the frame and the records at ch are kept (the callers' frames up to slots), the frame's map is kept, the new abstract heap is held -/
theorem Inv.step {g' : Array GenState} {t' : Nat} {d' : Drawn} {ch : List Addr} (I : Inv X pins σ H s)
    (hch : ∀ b ∈ ch, (b ∈ X.ex ∨ X.s₀.heap.objs.size ≤ b) ∧ b ≠ X.env.locals ∧ (∀ x c, X.env.cells.lookup x = some c → c ≠ b) ∧ ∀ p ∈ X.pn ++ pins, p.1 ≠ b)
    (keep : ∀ b o, b ≠ X.env.locals → b ∉ X.fs → b ∉ ch → s.heap.get? b = some o → H b = none → h'.get? b = some o)
    (slot : ∀ b o, b ≠ X.env.locals → b ∈ X.fs → b ∉ ch → s.heap.get? b = some o → H b = none → ∃ sl, h'.get? b = some { o with slots := sl }) (free : ∀ b o, b ∉ ch → s.heap.get? b = some o → H b = none → H' b = none)
    (there : ∀ b o, b ∉ ch → s.heap.get? b = some o → ∃ o', h'.get? b = some o')
    (tups : ∀ b xs, H b = some (.tup xs) → H' b = some (.tup xs)) (frzs : ∀ b o u, H b = some (.frz o u) → H' b = some (.frz o u)) (tbls : ∀ b ps, H b = some (.tbl ps) → ∃ more, H' b = some (.tbl (ps ++ more)))
    (ns : ∀ m, s.heap.Ns X.env.locals m → h'.Ns X.env.locals m) (hok : HOk X.prog X.w H' h') (hg : AllBare g') :
    Inv X pins σ H' { s with heap := h', gens := g', drawn := d', toks := t' } := by
  have neL : ∀ b o, X.s₀.heap.get? b = some o → b ≠ X.env.locals := fun b o e => Nat.ne_of_lt (Nat.lt_of_lt_of_le (Heap.lt_size e) I.ok.above)
  have neC : ∀ b o, X.s₀.heap.get? b = some o → b ∉ X.ex → b ∉ ch := fun b o e hx hb => by
    rcases (hch b hb).1 with z | z
    · exact hx z
    · exact absurd (Nat.lt_of_lt_of_le (Heap.lt_size e) z) (Nat.lt_irrefl _)
  have cellK : ∀ x c, X.env.cells.lookup x = some c → ∀ v, s.heap.IsCell c v → h'.IsCell c v := fun x c e v ⟨o, ho, hd⟩ => by
    have nch : c ∉ ch := fun z => (hch c z).2.2.1 x c e rfl
    by_cases hc : c ∈ X.fs
    · obtain ⟨sl, q⟩ := slot c o (I.cne x c e) hc nch ho (I.freeC x c e)
      exact ⟨_, q, hd⟩
    · exact ⟨o, keep c o (I.cne x c e) hc nch ho (I.freeC x c e), hd⟩
  refine ⟨I.ok, I.os, hg, ⟨fun b o e n hb hx => ?_, fun b o e n hb hx => ?_, fun b o e n hx => ?_, fun b o e hx => ?_, fun b xs e => tups b xs (I.base.tups b xs e), fun b o xs e => frzs b o xs (I.base.frzs b o xs e), fun b ps e => ?_⟩, ?_, fun x c e => ?_, ?_, fun x c e => ?_, fun p hp => ?_, hok, I.len⟩
  · exact keep b o (neL b o e) hb (neC b o e hx) (I.base.keep b o e n hb hx) (I.base.free b o e n hx)
  · obtain ⟨sl, e1⟩ := I.base.slot b o e n hb hx
    obtain ⟨sl', e2⟩ := slot b _ (neL b o e) hb (neC b o e hx) e1 (I.base.free b o e n hx)
    exact ⟨sl', e2⟩
  · obtain ⟨o', e1⟩ := I.base.there b o e hx
    exact free b o' (neC b o e hx) e1 (I.base.free b o e n hx)
  · obtain ⟨o', e1⟩ := I.base.there b o e hx
    exact there b o' (neC b o e hx) e1
  · obtain ⟨m1, e1⟩ := I.base.tbls b ps e
    obtain ⟨m2, e2⟩ := tbls b _ e1
    exact ⟨m1 ++ m2, by rw [e2, Array.append_assoc]⟩
  · obtain ⟨m, hn, hl⟩ := I.loc
    refine ⟨m, ns m hn, fun i x v e1 e2 e3 => ?_⟩
    obtain ⟨u, r, l⟩ := hl i x v e1 e2 e3
    refine ⟨u, r, ?_⟩
    rcases l with l | ⟨k, c, e, z⟩
    · exact .inl l
    · exact .inr ⟨k, c, e, cellK x c e _ z⟩
  · obtain ⟨v, z⟩ := I.cell x c e
    exact ⟨v, cellK x c e v z⟩
  · obtain ⟨m, ⟨o, _, _, ho, _⟩, _⟩ := I.loc
    exact free _ o (fun z => (hch _ z).2.1 rfl) ho I.free
  · obtain ⟨v, o, ho, hd⟩ := I.cell x c e
    exact free c o (fun z => (hch c z).2.2.1 x c e rfl) ho (I.freeC x c e)
  · obtain ⟨e, n, ne, nf, d⟩ := I.pin p hp
    have nch : p.1 ∉ ch := fun z => (hch p.1 z).2.2.2 p hp rfl
    exact ⟨keep p.1 p.2 ne nf nch e n, free p.1 p.2 nch e n, ne, nf, d⟩
/-- .. where the frame's own object is kept too -/
theorem Inv.un {t' : Nat} (I : Inv X pins σ H s) (u : Un X.fs [] H H' s.heap h') (hok : HOk X.prog X.w H' h') : Inv X pins σ H' { s with heap := h', toks := t' } := by
  obtain ⟨m, ⟨o, es, ep, ho, r⟩, _⟩ := id I.loc
  obtain ⟨sl, hL⟩ := u.any ho I.free (by simp)
  exact I.step (g' := s.gens) (d' := s.drawn) (ch := []) (fun _ z => nomatch z) (fun b o _ hb _ e n => u.keep b o e n hb (by simp)) (fun b o _ hb _ e n => u.slot b o e n hb (by simp)) (fun b o _ e n => u.free b o e n (by simp)) (fun b o _ e => u.there b o e (by simp)) u.tups u.frzs u.tbls (fun m' hm => by
    obtain ⟨o', es', ep', ho', r'⟩ := hm
    rw [ho] at ho'; cases ho'
    exact ⟨_, es', ep', hL, r'⟩) hok I.bare
/-- behind a call (or a comprehension's block): the slots of this frame may have changed too, the records at ch may have turned -/
theorem Inv.call {g' : Array GenState} {t' : Nat} {d' : Drawn} {ch : List Addr} (I : Inv X pins σ H s) (u : Un (frs X.stack) ch H H' s.heap h') (hok : HOk X.prog X.w H' h') (hg : AllBare g')
    (hch : ∀ b ∈ ch, (b ∈ X.ex ∨ X.s₀.heap.objs.size ≤ b) ∧ b ≠ X.env.locals ∧ (∀ x c, X.env.cells.lookup x = some c → c ≠ b) ∧ ∀ p ∈ X.pn ++ pins, p.1 ≠ b) :
    Inv X pins σ H' { s with heap := h', gens := g', drawn := d', toks := t' } := by
  obtain ⟨m, ⟨o, es, ep, ho, r⟩, _⟩ := id I.loc
  obtain ⟨sl, hL⟩ := u.any ho I.free fun z => (hch _ z).2.1 rfl
  exact I.step (ch := ch) hch (fun b o hL hb hc e n => u.keep b o e n (fun z => (List.mem_cons.mp (I.stkSub b z)).elim hL hb) hc) (fun b o _ _ hc e n => u.any e n hc) (fun b o hc e n => u.free b o e n hc) (fun b o hc e => u.there b o e hc) u.tups u.frzs u.tbls (fun m' hm => by
    obtain ⟨o', es', ep', ho', r'⟩ := hm
    rw [ho] at ho'; cases ho'
    exact ⟨_, es', ep', hL, r'⟩) hok hg
/-- an untracked record of ours (an iterator) has turned -/
theorem Inv.turned {t' : Nat} {it : Addr} (I : Inv X pins σ H s) (k : ∀ b o, b ≠ it → s.heap.get? b = some o → h'.get? b = some o) (hn : H it = none) (hL : it ≠ X.env.locals)
    (h1 : it ∈ X.ex ∨ X.s₀.heap.objs.size ≤ it) (h2 : ∀ x c, X.env.cells.lookup x = some c → c ≠ it) (h3 : ∀ p ∈ X.pn ++ pins, p.1 ≠ it) : Inv X pins σ H { s with heap := h', toks := t' } := by
  have nit : ∀ b u, H b = some u → b ≠ it := fun b u e z => by rw [z, hn] at e; cases e
  refine I.step (g' := s.gens) (d' := s.drawn) (ch := [it]) (fun b hb => ?_) (fun b o _ _ hc e _ => k b o (fun z => hc (by simp [z])) e) (fun b o _ _ hc e _ => ⟨o.slots, k b o (fun z => hc (by simp [z])) e⟩) (fun _ _ _ _ n => n)
    (fun b o hc e => ⟨o, k b o (fun z => hc (by simp [z])) e⟩) (fun _ _ e => e) (fun _ _ _ e => e) (fun b ps e => ⟨#[], by rw [e]; simp⟩) (fun m hm => ?_) (fun b u e => ?_) I.bare
  · have e : b = it := by simpa using hb
    subst e
    exact ⟨h1, hL, h2, h3⟩
  · obtain ⟨o, es, ep, ho, r⟩ := hm
    exact ⟨o, es, ep, k _ o (Ne.symm hL) ho, r⟩
  · refine (I.hok b u e).stay (fun c v hc q => k c v ?_ q) (fun _ q => q) fun _ _ q => q
    rcases hc with z | z
    · rw [z]; exact nit b u e
    · exact nit c _ z
theorem Inv.tok (I : Inv X pins σ H s) (t : Nat) : Inv X pins σ H { s with toks := t } := I.un (h' := s.heap) (t' := t) Un.refl I.hok
/-- all objects kept -/
theorem Inv.kept {t' : Nat} (I : Inv X pins σ H s) (k : ∀ b u, s.heap.get? b = some u → h'.get? b = some u) : Inv X pins σ H { s with heap := h', toks := t' } := I.un (Un.kept k) (I.hok.kept k)
/-- a new object laid and tracked -/
theorem Inv.laid {a : Addr} {o : HO} {t' : Nat} (I : Inv X pins σ H s) (k : ∀ b u, s.heap.get? b = some u → h'.get? b = some u) (hp : s.heap.objs.size ≤ a) (new : ObjOk X.prog X.w (upd H a o) h' a o) :
    Inv X pins σ (upd H a o) { s with heap := h', toks := t' } := I.un (Un.laid k hp (I.hok.fresh hp)) (I.hok.laid k hp new)
/-- an object written -/
theorem Inv.write {x e : Addr} {o : HO} {t' : Nat} (I : Inv X pins σ H s) (mu : Mut (H x)) (he : e = x ∨ H e = some (.own x)) (k : ∀ b u, b ≠ e → s.heap.get? b = some u → h'.get? b = some u) (heo : ∃ u, h'.get? e = some u)
    (new : ObjOk X.prog X.w (upd H x o) h' x o) : Inv X pins σ (upd H x o) { s with heap := h', toks := t' } := I.un (Un.write mu he k heo) (I.hok.write mu he k heo new)
theorem Inv.pins_of {pins' : List (Addr × Obj)} (I : Inv X pins σ H s) (h : ∀ p ∈ pins', s.heap.get? p.1 = some p.2 ∧ H p.1 = none ∧ p.1 ≠ X.env.locals ∧ p.1 ∉ X.fs ∧ ∀ v, p.2.data ≠ .cell v) : Inv X pins' σ H s :=
  ⟨I.ok, I.os, I.bare, I.base, I.loc, I.cell, I.free, I.freeC, fun p hp => (List.mem_append.mp hp).elim (fun z => I.pin p (List.mem_append_left _ z)) (h p), I.hok, I.len⟩

theorem nodup_ix {N : List Str} (hN : N.Nodup) {i j : Nat} {x : Str} (a : N[i]? = some x) (b : N[j]? = some x) : i = j := by
  obtain ⟨h1, e1⟩ := List.getElem?_eq_some_iff.mp a
  obtain ⟨h2, e2⟩ := List.getElem?_eq_some_iff.mp b
  exact (List.getElem_inj hN).mp (e1.trans e2.symm)

/-- a name is stored; what changed -/
theorem store_ok2 {M : Model} {A : Around} {E : Value → Shared → Prop} {i : Nat} {x : Str} {v : V} {u : Value} {Q : Unit → Shared → Prop} (I : Inv X pins σ H s) (hN : X.N.Nodup) (hi : X.N[i]? = some x) (hx : Loc X.env.scope x) (r : RelV v u)
    (h : ∀ s', Inv X pins (σ.set i (some v)) H s' → (∃ a, Heap.SameBut a s.heap s'.heap ∧ (a = X.env.locals ∨ X.env.cells.lookup x = some a)) → Q () s') (hf : X.fn x = true ∨ X.env.scope.names.lookup x = some .local := by first | exact .inl rfl | exact .inr rfl | assumption) : wpAny M A (storeName X.env x u) Q E s := by
  obtain ⟨m, hn, hl⟩ := id I.loc
  have hcls : (X.env.scope.kind == .class || (X.env.scope.kind == .module && X.env.locals != X.env.globals)) = false := by rw [I.ok.kind]; rfl
  have hiσ : i < σ.length := by rw [I.len]; exact (List.getElem?_eq_some_iff.mp hi).1
  have cne := I.cne
  have tracked : ∀ {a : Addr} {h' : Heap}, (∃ o, s.heap.get? a = some o ∧ H a = none) → Heap.SameBut a s.heap h' → HOk X.prog X.w H h' := fun {a h'} ha hs b ob e => by
    obtain ⟨_, _, hfree⟩ := ha
    refine (I.hok b ob e).stay (fun c w' hc q => (hs.2 c ?_).trans q) (fun _ q => q) fun _ _ q => q
    rintro rfl
    rcases hc with rfl | hc
    · rw [hfree] at e; cases e
    · rw [hfree] at hc; cases hc
  rcases hx with hk | hk
  · refine wpAny_storeName_local hk hn (fun h' hn' hs => ?_) hcls
    obtain ⟨oL, _, _, hoL, _⟩ := id hn
    refine h _ ⟨I.ok, I.os, I.bare, ⟨fun b o e n hb hx => ?_, fun b o e n hb hx => ?_, I.base.free, fun b o e hx => ?_, I.base.tups, I.base.frzs, I.base.tbls⟩, ⟨_, hn', fun j y v' e1 e2 e3 => ?_⟩, fun y c e => ?_, I.free, I.freeC, fun p hp => ?_, tracked ⟨oL, hoL, I.free⟩ hs, by simpa using I.len⟩ ⟨_, hs, .inl rfl⟩
    · exact (hs.2 b (Nat.ne_of_lt (Nat.lt_of_lt_of_le (Heap.lt_size e) I.ok.above))).trans (I.base.keep b o e n hb hx)
    · obtain ⟨sl, e1⟩ := I.base.slot b o e n hb hx
      exact ⟨sl, (hs.2 b (Nat.ne_of_lt (Nat.lt_of_lt_of_le (Heap.lt_size e) I.ok.above))).trans e1⟩
    · obtain ⟨o', e1⟩ := I.base.there b o e hx
      exact ⟨o', (hs.2 b (Nat.ne_of_lt (Nat.lt_of_lt_of_le (Heap.lt_size e) I.ok.above))).trans e1⟩
    · by_cases hj : j = i
      · subst hj
        rw [hi] at e1; cases e1
        rw [List.getElem?_set_self hiσ] at e2
        cases e2
        exact ⟨u, r, .inl ⟨hk, by simp⟩⟩
      · rw [List.getElem?_set_ne (Ne.symm hj)] at e2
        obtain ⟨u', r', q⟩ := hl j y v' e1 e2 e3
        refine ⟨u', r', ?_⟩
        rcases q with ⟨k, e⟩ | ⟨k, c, e, z⟩
        · refine .inl ⟨k, ?_⟩
          have : y ≠ x := fun e => hj (nodup_ix hN e1 (e ▸ hi))
          simp [this, e]
        · exact .inr ⟨k, c, e, z.sameBut hs (cne y c e)⟩
    · obtain ⟨w', z⟩ := I.cell y c e
      exact ⟨w', z.sameBut hs (cne y c e)⟩
    · obtain ⟨e, n, ne, nf, d⟩ := I.pin p hp
      exact ⟨(hs.2 p.1 ne).trans e, n, ne, nf, d⟩
  · have hfn : X.fn x = true := by
      rcases hf with z | z
      · exact z
      · rw [z] at hk; cases hk
    obtain ⟨c, hc⟩ := I.ok.has x (.inl hk)
    obtain ⟨w', z⟩ := I.cell x c hc
    refine wpAny_storeName_cell I.ok.kind hk hc z (fun h' hc' hs => ?_)
    obtain ⟨oc, hoc, hocd⟩ := id z
    refine h { s with heap := h' } ⟨I.ok, I.os, I.bare, ⟨fun b o e n hb hx => ?_, fun b o e n hb hx => ?_, I.base.free, fun b o e hx => ?_, I.base.tups, I.base.frzs, I.base.tbls⟩, ⟨m, hn.sameBut hs (Ne.symm (cne x c hc)), fun j y v' e1 e2 e3 => ?_⟩, fun y c' e => ?_, I.free, I.freeC, fun p hp => ?_, tracked ⟨oc, hoc, I.freeC x c hc⟩ hs, by simpa using I.len⟩ ⟨c, hs, .inr hc⟩
    · exact (hs.2 b (Nat.ne_of_lt (Nat.lt_of_lt_of_le (Heap.lt_size e) (I.ok.cab x c hfn hc)))).trans (I.base.keep b o e n hb hx)
    · obtain ⟨sl, e1⟩ := I.base.slot b o e n hb hx
      exact ⟨sl, (hs.2 b (Nat.ne_of_lt (Nat.lt_of_lt_of_le (Heap.lt_size e) (I.ok.cab x c hfn hc)))).trans e1⟩
    · obtain ⟨o', e1⟩ := I.base.there b o e hx
      exact ⟨o', (hs.2 b (Nat.ne_of_lt (Nat.lt_of_lt_of_le (Heap.lt_size e) (I.ok.cab x c hfn hc)))).trans e1⟩
    · by_cases hj : j = i
      · subst hj
        rw [hi] at e1; cases e1
        rw [List.getElem?_set_self hiσ] at e2
        cases e2
        exact ⟨u, r, .inr ⟨.inl hk, c, hc, hc'⟩⟩
      · rw [List.getElem?_set_ne (Ne.symm hj)] at e2
        obtain ⟨u', r', q⟩ := hl j y v' e1 e2 e3
        refine ⟨u', r', ?_⟩
        rcases q with q | ⟨k, c', e, z'⟩
        · exact .inl q
        · refine .inr ⟨k, c', e, z'.sameBut hs ?_⟩
          rintro rfl
          exact hj (nodup_ix hN e1 (I.ok.inj _ _ _ e hc ▸ hi))
    · by_cases hcc : c' = c
      · subst hcc; exact ⟨_, hc'⟩
      · obtain ⟨w2, z2⟩ := I.cell y c' e
        exact ⟨w2, z2.sameBut hs hcc⟩
    · obtain ⟨e, n, ne, nf, d⟩ := I.pin p hp
      refine ⟨(hs.2 p.1 ?_).trans e, n, ne, nf, d⟩
      intro q
      rw [q, hoc] at e
      have q' : oc = p.2 := Option.some.inj e
      exact d w' (by rw [← q']; exact hocd)
theorem store_ok {M : Model} {A : Around} {E : Value → Shared → Prop} {i : Nat} {x : Str} {v : V} {u : Value} {Q : Unit → Shared → Prop} (I : Inv X pins σ H s) (hN : X.N.Nodup) (hi : X.N[i]? = some x) (hx : Loc X.env.scope x) (r : RelV v u)
    (h : ∀ s', Inv X pins (σ.set i (some v)) H s' → Q () s') (hf : X.fn x = true ∨ X.env.scope.names.lookup x = some .local := by first | exact .inl rfl | exact .inr rfl | assumption) : wpAny M A (storeName X.env x u) Q E s :=
  store_ok2 I hN hi hx r (fun s' I' _ => h s' I') hf
/-- behind a call or a block, the state as it is -/
theorem Inv.call' {s' : Shared} {ch : List Addr} (I : Inv X pins σ H s) (ho : s'.os = s.os) (u : Un (frs X.stack) ch H H' s.heap s'.heap) (hok : HOk X.prog X.w H' s'.heap) (hg : AllBare s'.gens)
    (hch : ∀ b ∈ ch, (b ∈ X.ex ∨ X.s₀.heap.objs.size ≤ b) ∧ b ≠ X.env.locals ∧ (∀ x c, X.env.cells.lookup x = some c → c ≠ b) ∧ ∀ p ∈ X.pn ++ pins, p.1 ≠ b) : Inv X pins σ H' s' := by
  obtain ⟨h', g', d', t', o'⟩ := s'
  have e : o' = s.os := ho
  subst e
  exact I.call (g' := g') (t' := t') (d' := d') u hok hg hch
end

/-! ### the judgements -/
/-- an exception: its class, its own dict's address (where it has one), the abstract heap behind it -/
abbrev XK := Value → Option Addr → Hp → Prop
abbrev St := List (Option V)
abbrev VK := V → Hp → Prop
/-- an expression's reading; a test's; an argument list's -/
abbrev TE := St → Hp → VK → Prop
abbrev TT := St → Hp → (Bool → Hp → Prop) → Prop
abbrev TA := St → Hp → (List V → Hp → Prop) → Prop
/-- what is wanted behind a statement -/
structure Ends where
  nx : St → Hp → Prop
  rt : VK
  bk : St → Hp → Prop := fun _ _ => False
  ct : St → Hp → Prop := fun _ _ => False
abbrev TS := Ends → St → Hp → Prop

def EP (X : Cx) (pins : List (Addr × Obj)) (σ : St) (Q : VK) (u : Value) (s' : Shared) : Prop := ∃ v H', Inv X pins σ H' s' ∧ RelV v u ∧ Q v H'
def TP (X : Cx) (pins : List (Addr × Obj)) (σ : St) (Q : Bool → Hp → Prop) (b : Bool) (s' : Shared) : Prop := ∃ H', Inv X pins σ H' s' ∧ Q b H'
def AP (X : Cx) (pins : List (Addr × Obj)) (σ : St) (Q : List V → Hp → Prop) (us : List Value) (s' : Shared) : Prop := ∃ vs H', Inv X pins σ H' s' ∧ Vals vs us ∧ Q vs H'
def SP (X : Cx) (pins : List (Addr × Obj)) (D : Ends) (f : Flow) (s' : Shared) : Prop :=
  match f with
  | .next => ∃ σ' H', Inv X pins σ' H' s' ∧ D.nx σ' H'
  | .brk => ∃ σ' H', Inv X pins σ' H' s' ∧ D.bk σ' H'
  | .cont => ∃ σ' H', Inv X pins σ' H' s' ∧ D.ct σ' H'
  | .ret u => ∃ v σ' H', Inv X pins σ' H' s' ∧ RelV v u ∧ D.rt v H'

def PE (X : Cx) (e : Expr) (t : TE) : Prop :=
  ∀ (pins : List (Addr × Obj)) (s : Shared) (σ : St) (H : Hp) (Q : VK), Inv X pins σ H s → t σ H Q → wpAny (model X.prog X.w) X.A (eval e X.env) (EP X pins σ Q) X.xe s
def PT (X : Cx) (e : Expr) (t : TT) : Prop :=
  ∀ (pins : List (Addr × Obj)) (s : Shared) (σ : St) (H : Hp) (Q : Bool → Hp → Prop), Inv X pins σ H s → t σ H Q → wpAny (model X.prog X.w) X.A (isTrue e X.env (eval e X.env)) (TP X pins σ Q) X.xe s
/-- a test whatever its 'whole' is (and, or) -/
def PW (X : Cx) (e : Expr) (t : TT) : Prop :=
  ∀ (whole : Sem Value) (pins : List (Addr × Obj)) (s : Shared) (σ : St) (H : Hp) (Q : Bool → Hp → Prop), Inv X pins σ H s → t σ H Q → wpAny (model X.prog X.w) X.A (isTrue e X.env whole) (TP X pins σ Q) X.xe s
theorem PW.pt {X : Cx} {e : Expr} {t : TT} (h : PW X e t) : PT X e t := h _
/-- an argument list (no star), from the left -/
def PA (X : Cx) (es : List Expr) (t : TA) : Prop :=
  ∀ (pos : Pos) (pins : List (Addr × Obj)) (s : Shared) (σ : St) (H : Hp) (Q : List V → Hp → Prop), Inv X pins σ H s → t σ H Q → wpAny (model X.prog X.w) X.A (spliced (backTo pos (starEach es X.env))) (AP X pins σ Q) X.xe s
def PS (X : Cx) (st : Stmt) (t : TS) : Prop :=
  ∀ (pins : List (Addr × Obj)) (s : Shared) (σ : St) (H : Hp) (D : Ends), Inv X pins σ H s → t D σ H → wpAny (model X.prog X.w) X.A (exec st X.env) (SP X pins D) X.xe s
def PSs (X : Cx) (st : List Stmt) (t : TS) : Prop :=
  ∀ (pins : List (Addr × Obj)) (s : Shared) (σ : St) (H : Hp) (D : Ends), Inv X pins σ H s → t D σ H → wpAny (model X.prog X.w) X.A (execs st X.env) (SP X pins D) X.xe s
/-- weaken the end -/
theorem thn {α : Type} {t : Sem α} {Q Q' : α → Shared → Prop} {M : Model} {A : Around} {E : Value → Shared → Prop} {s : Shared} (h : wpAny M A t Q E s) (hQ : ∀ a s, Q a s → Q' a s) : wpAny M A t Q' E s := wpAny_mono h hQ fun _ _ x => x
end L2

namespace L2
open PySem PySem.Spec PyProof.Rows
section
variable {X : Cx}


/-! ### names and constants -/
def tVar (i : Nat) : TE := fun σ H Q => ∃ v, σ[i]? = some (some v) ∧ Q v H
def tC (v : V) : TE := fun _ H Q => Q v H
theorem pe_var {i : Nat} {x : Str} {pos : Pos} (hN : X.N[i]? = some x) (hv : Vis X.env.scope x) (hd : (x == ("__debug__" : Str)) = false := by decide) (hcd : (x == ("__classdict__" : Str)) = false := by decide) : PE X (.Name x pos) (tVar i) := by
  intro pins s σ H Q I h
  obtain ⟨v, e, h⟩ := h
  obtain ⟨m, hn, hl⟩ := I.loc
  obtain ⟨u, r, l⟩ := hl i x v hN e hv
  have fin : EP X pins σ Q u s := ⟨v, H, I, r, h⟩
  rcases l with ⟨hk, hm⟩ | ⟨hk, c, hc, hcell⟩
  · exact wpAny_Name (wpAny_loadName_local I.ok.kind hk hn hm fin) hd
  · rcases hk with hk | hk
    · exact wpAny_Name (wpAny_loadName_cell I.ok.kind hk hc hcell fin) hd
    · exact wpAny_Name (wpAny_loadName_free I.ok.kind hk hc hcell fin hcd) hd
theorem pe_int {i j pos} : PE X (.Constant (.int i) j pos) (tC (.int i)) := fun _ _ _ H _ I h => wpAny_Constant_int ⟨.int i, H, I.tok _, ⟨_, rfl⟩, h⟩
theorem pe_bl {b j pos} : PE X (.Constant (.bool b) j pos) (tC (.bl b)) := fun _ _ _ H _ I h => Constant_bool ⟨.bl b, H, I, rfl, h⟩

/-- a global name of the def -/
def Gl (X : Cx) (x : Str) : Prop := X.env.kindOf x = some .globalImplicit
theorem ld_glob {E : Value → Shared → Prop} {pins : List (Addr × Obj)} {s : Shared} {σ : St} {H : Hp} {x : Str} {u : Value} {pos : Pos} {Q : Value → Shared → Prop} (I : Inv X pins σ H s) (hg : Gl X x) (hm : X.mg x = some u) (h : Q u s)
    (hd : (x == ("__debug__" : Str)) = false := by decide) : wpAny (model X.prog X.w) X.A (eval (.Name x pos) X.env) Q E s :=
  Calls.Name_function_global I.ok.kind hg (Calls.loadGlobal_global (by rw [I.ok.glob]; exact I.mod.glob.keeps I.bk) hm h) hd
theorem ld_blt {E : Value → Shared → Prop} {pins : List (Addr × Obj)} {s : Shared} {σ : St} {H : Hp} {x : Str} {u : Value} {pos : Pos} {Q : Value → Shared → Prop} (I : Inv X pins σ H s) (hg : Gl X x) (hm : X.mg x = none) (hv : bootBuiltins x = some u) (h : Q u s)
    (hn : x ≠ "__name__" := by decide) (hd : (x == ("__debug__" : Str)) = false := by decide) : wpAny (model X.prog X.w) X.A (eval (.Name x pos) X.env) Q E s := by
  obtain ⟨mb, h1, h2⟩ := I.mod.blt
  exact Calls.Name_function_global I.ok.kind hg (Calls.loadGlobal_builtin (by rw [I.ok.glob]; exact I.mod.glob.keeps I.bk) hm (by rw [I.ok.blt]; exact h1.keeps I.bk) ((h2 x hn).trans hv) h) hd
theorem pe_bltn {x : Str} {v : V} {u : Value} {pos : Pos} (hg : Gl X x) (hm : X.mg x = none) (hv : bootBuiltins x = some u) (r : RelV v u) (hn : x ≠ "__name__" := by decide) (hd : (x == ("__debug__" : Str)) = false := by decide) : PE X (.Name x pos) (tC v) :=
  fun _ _ _ H _ I h => ld_blt I hg hm hv ⟨v, H, I, r, h⟩ hn hd

/-! ### arithmetic -/
variable {a b : Expr} {ta tb : TE} {pos : Pos}

/-! ### comparisons -/

/-! ### and, or, not -/
variable {tA tB' : TT} {rest : List Expr}
def tOr (t u : TT) : TT := fun σ H Q => t σ H fun c H1 => if c = true then Q true H1 else u σ H1 Q
def tNot (t : TT) : TT := fun σ H Q => t σ H fun c H1 => Q (!c) H1
theorem pw_or1 (ha : PT X a tA) : PW X (.BoolOp .Or [a] pos) tA := by
  intro wh pins s σ H Q I h
  refine isTrue_or (thn (ha pins s σ H Q I h) fun c s1 e => ?_)
  cases c with
  | false => exact isTrue_or_nil e
  | true => exact e
theorem pw_or (ha : PT X a tA) (hb : PW X (.BoolOp .Or (b :: rest) pos) tB') : PW X (.BoolOp .Or (a :: b :: rest) pos) (tOr tA tB') := by
  intro wh pins s σ H Q I h
  refine isTrue_or (thn (ha pins s σ H _ I h) fun c s1 ⟨H1, I1, q1⟩ => ?_)
  cases c with
  | true => exact ⟨H1, I1, q1⟩
  | false => exact hb wh pins s1 σ H1 Q I1 q1
theorem pt_not (ha : PT X a tA) : PT X (.UnaryOp .Not a pos) (tNot tA) := by
  intro pins s σ H Q I h
  exact isTrue_not (ha pins s σ H (fun c H1 => Q (!c) H1) I h)
/-- .. as values (bools) -/
def tAndV (ta tb : TE) : TE := fun σ H Q => ta σ H fun x H1 => ∃ c, x = .bl c ∧ if c = true then tb σ H1 Q else Q (.bl false) H1
def tNotV (ta : TE) : TE := fun σ H Q => ta σ H fun x H1 => ∃ c, x = .bl c ∧ Q (.bl (!c)) H1
theorem pe_one {op} {t : TE} (h : PE X a t) : PE X (.BoolOp op [a] pos) t := fun pins s σ H Q I hw => BoolOp_one (h pins s σ H Q I hw)
theorem pe_and (ha : PE X a ta) (hb : PE X (.BoolOp .And (b :: rest) pos) tb) : PE X (.BoolOp .And (a :: b :: rest) pos) (tAndV ta tb) := by
  intro pins s σ H Q I h
  refine BoolOp_and (thn (ha pins s σ H _ I h) fun v s1 ⟨x, H1, I1, r1, q1⟩ => ?_)
  obtain ⟨c, rfl, q1⟩ := q1
  cases r1
  refine wpAny_truthy_bool ?_
  cases c with
  | true => exact hb pins s1 σ H1 Q I1 q1
  | false => exact ⟨.bl false, H1, I1, rfl, q1⟩
theorem pe_not (ha : PE X a ta) : PE X (.UnaryOp .Not a pos) (tNotV ta) := by
  intro pins s σ H Q I h
  refine UnaryOp_ (thn (ha pins s σ H _ I h) fun v s1 ⟨x, H1, I1, r1, q1⟩ => ?_)
  obtain ⟨c, rfl, q1⟩ := q1
  cases r1
  exact not_of (wpAny_truthy_bool ⟨.bl (!c), H1, I1, rfl, q1⟩)
/-- a if t else b -/
def tIf (t : TT) (ta tb : TE) : TE := fun σ H Q => t σ H fun c H1 => if c = true then ta σ H1 Q else tb σ H1 Q
theorem pe_ifExp {c : Expr} (hc : PT X c tA) (ha : PE X a ta) (hb : PE X b tb) : PE X (.IfExp c a b pos) (tIf tA ta tb) := by
  intro pins s σ H Q I h
  refine wpAny_IfExp (thn (hc pins s σ H _ I h) fun d s1 ⟨H1, I1, q1⟩ => ?_)
  cases d with
  | true => exact ha pins s1 σ H1 Q I1 q1
  | false => exact hb pins s1 σ H1 Q I1 q1
end
end L2

namespace L2
open PySem PySem.Spec PyProof.Rows

/-! ### a list, a tuple that is read: tracked, frozen, or an object of the module -/
def SqL (K : PySem.W.Frag) (H : Hp) (a : Addr) (xs : List V) : Prop :=
  Rd H a (.lst xs) ∨
    ∃ (o : Obj) (its : Array Value) (n : Nat), K.lookup a = some o ∧ o.cls = .type "list" ∧ o.dict = none ∧ o.data = .seq its n ∧ its.size ≤ sizeLine ∧ Vals xs its.toList
def SqT (K : PySem.W.Frag) (H : Hp) (a : Addr) (xs : List V) : Prop :=
  Rd H a (.tup xs) ∨
    ∃ (o : Obj) (its : Array Value) (n : Nat), K.lookup a = some o ∧ (o.cls = .type "tuple" ∧ o.dict = none) ∧ o.data = .seq its n ∧ its.size ≤ sizeLine ∧ Vals xs its.toList
def absV : Value → Option V
  | .none => some .non
  | .bool b => some (.bl b)
  | .int i _ => some (.int i)
  | .str x _ => some (.str x)
  | .bytes b _ => some (.byt b)
  | .float b _ => some (.flt b)
  | .ref a => some (.ref a)
  | .type n => some (.ty n)
  | _ => none
theorem RelV.abs {x : V} {u : Value} (r : RelV x u) : absV u = some x := by
  cases x with
  | non => cases r; rfl
  | bl _ => cases r; rfl
  | int _ => obtain ⟨t, rfl⟩ := r; rfl
  | str _ => obtain ⟨t, rfl⟩ := r; rfl
  | byt _ => obtain ⟨t, rfl⟩ := r; rfl
  | flt _ => obtain ⟨t, rfl⟩ := r; rfl
  | ref _ => cases r; rfl
  | ty _ => cases r; rfl
theorem RelV.inj {x y : V} {u : Value} (r : RelV x u) (q : RelV y u) : x = y := Option.some.inj (r.abs.symm.trans q.abs)
theorem Vals.inj : ∀ {xs ys : List V} {us : List Value}, Vals xs us → Vals ys us → xs = ys
  | _, _, _, .nil, .nil => rfl
  | _, _, _, .cons r t, .cons r' t' => by rw [r.inj r', Vals.inj t t']
section
variable {X : Cx} {pins : List (Addr × Obj)} {σ : St} {H : Hp} {s : Shared} {a : Addr} {xs ys : List V}
theorem SqL.of {K : PySem.W.Frag} (h : H a = some (.lst xs)) : SqL K H a xs := .inl (.inl h)
theorem SqT.of {K : PySem.W.Frag} (h : H a = some (.tup xs)) : SqT K H a xs := .inl (.inl h)
theorem Inv.list (I : Inv X pins σ H s) (h : SqL X.K H a xs) : ∃ its : List Value, Vals xs its ∧ PlainL s.heap a its.toArray ∧ xs.length ≤ sizeLine := by
  rcases h with h | ⟨o, its, n, hk, hc, hd, hs, hz, r⟩
  · obtain ⟨z, its, n, r, e⟩ := h.ok I.hok
    exact ⟨its, r, ⟨_, n, e, rfl, rfl, rfl⟩, z⟩
  · refine ⟨its.toList, r, ⟨o, n, I.kIn a o hk, hc, hd, by simpa using hs⟩, ?_⟩
    have e := r.length
    simp only [Array.length_toList] at e
    omega
theorem Inv.tuple (I : Inv X pins σ H s) (h : SqT X.K H a xs) : ∃ its : List Value, Vals xs its ∧ IsTup s.heap a its.toArray ∧ xs.length ≤ sizeLine := by
  rcases h with h | ⟨o, its, n, hk, hc, hs, hz, r⟩
  · obtain ⟨z, its, r, p⟩ := h.ok I.hok
    exact ⟨its, r, p.is, z⟩
  · refine ⟨its.toList, r, ⟨o, I.kIn a o hk, hc.1, n, by simpa using hs⟩, ?_⟩
    have e := r.length
    simp only [Array.length_toList] at e
    omega
theorem Inv.list_inj (I : Inv X pins σ H s) (h : SqL X.K H a xs) (h' : SqL X.K H a ys) : xs = ys := by
  obtain ⟨its, r, ⟨o, n, e, _, _, d⟩, _⟩ := I.list h
  obtain ⟨its', r', ⟨o', n', e', _, _, d'⟩, _⟩ := I.list h'
  rw [e] at e'; cases e'
  rw [d] at d'
  injection d' with d1 _
  have : its = its' := by simpa using congrArg Array.toList d1
  subst this
  exact r.inj r'
theorem Inv.tuple_inj (I : Inv X pins σ H s) (h : SqT X.K H a xs) (h' : SqT X.K H a ys) : xs = ys := by
  obtain ⟨its, r, ⟨o, e, _, n, d⟩, _⟩ := I.tuple h
  obtain ⟨its', r', ⟨o', e', _, n', d'⟩, _⟩ := I.tuple h'
  rw [e] at e'; cases e'
  rw [d] at d'
  injection d' with d1 _
  have : its = its' := by simpa using congrArg Array.toList d1
  subst this
  exact r.inj r'
end

/-! ### another wish about exceptions -/
abbrev Cx.wish (X : Cx) (E : Value → Shared → Prop) : Cx := { X with xe := E }
/-- no exception leaves -/
abbrev Cx.nox (X : Cx) : Cx := X.wish fun _ _ => False
theorem Cx.Ok.wish {X : Cx} (ok : X.Ok) (E : Value → Shared → Prop) : (X.wish E).Ok :=
  ⟨ok.mod, ok.kind, ok.glob, ok.blt, ok.above, ok.inj, ok.has, ok.cab, ok.hd, ok.frames, ok.stk, ok.exf, ok.bs, ok.bsz, ok.noex, ok.exfs, ok.funs, ok.frf⟩
theorem Cx.Ok.unwish {X : Cx} {E : Value → Shared → Prop} (ok : (X.wish E).Ok) : X.Ok :=
  ⟨ok.mod, ok.kind, ok.glob, ok.blt, ok.above, ok.inj, ok.has, ok.cab, ok.hd, ok.frames, ok.stk, ok.exf, ok.bs, ok.bsz, ok.noex, ok.exfs, ok.funs, ok.frf⟩
section
variable {X : Cx} {pins : List (Addr × Obj)} {σ : St} {H : Hp} {s : Shared} {E : Value → Shared → Prop}
theorem Inv.wish (I : Inv X pins σ H s) (E : Value → Shared → Prop) : Inv (X.wish E) pins σ H s := ⟨I.ok.wish E, I.os, I.bare, I.base, I.loc, I.cell, I.free, I.freeC, I.pin, I.hok, I.len⟩
theorem Inv.unwish (I : Inv (X.wish E) pins σ H s) : Inv X pins σ H s := ⟨I.ok.unwish, I.os, I.bare, I.base, I.loc, I.cell, I.free, I.freeC, I.pin, I.hok, I.len⟩
theorem SP.unwish {D : Ends} {f : Flow} {s' : Shared} (h : SP (X.wish E) pins D f s') : SP X pins D f s' := by
  cases f with
  | next => obtain ⟨σ', H', I, q⟩ := h; exact ⟨σ', H', I.unwish, q⟩
  | brk => obtain ⟨σ', H', I, q⟩ := h; exact ⟨σ', H', I.unwish, q⟩
  | cont => obtain ⟨σ', H', I, q⟩ := h; exact ⟨σ', H', I.unwish, q⟩
  | ret u => obtain ⟨v, σ', H', I, r, q⟩ := h; exact ⟨v, σ', H', I.unwish, r, q⟩
theorem PE.nox {e : Expr} {t : TE} (h : PE X.nox e t) : PE X e t := fun pins s σ H Q I hw =>
  wpAny_mono (h pins s σ H Q (I.wish _) hw) (fun _ _ ⟨v, H', I', r, q⟩ => ⟨v, H', I'.unwish, r, q⟩) fun _ _ z => False.elim z
theorem PT.nox {e : Expr} {t : TT} (h : PT X.nox e t) : PT X e t := fun pins s σ H Q I hw =>
  wpAny_mono (h pins s σ H Q (I.wish _) hw) (fun _ _ ⟨H', I', q⟩ => ⟨H', I'.unwish, q⟩) fun _ _ z => False.elim z
theorem PSs.nox {st : List Stmt} {t : TS} (h : PSs X.nox st t) : PSs X st t := fun pins s σ H D I hw =>
  wpAny_mono (h pins s σ H D (I.wish _) hw) (fun _ _ q => q.unwish) fun _ _ z => False.elim z
end

/-! ### blocks and small statements -/
section
variable {X : Cx} {st : Stmt} {rest : List Stmt} {t u : TS} {e : Expr} {te : TE} {pos : Pos}
def tNext : TS := fun D σ H => D.nx σ H
def tSeq (t u : TS) : TS := fun D σ H => t { D with nx := u D } σ H
theorem pss_nil : PSs X [] tNext := fun _ _ σ H _ I h => wpAny_execs_nil ⟨σ, H, I, h⟩
theorem pss_cons (h1 : PS X st t) (h2 : PSs X rest u) : PSs X (st :: rest) (tSeq t u) := by
  intro pins s σ H D I h
  refine wpAny_execs_cons (thn (h1 pins s σ H { D with nx := u D } I h) fun f s1 q => ?_)
  cases f with
  | next =>
    obtain ⟨σ', H', I', q⟩ := q
    exact h2 pins s1 σ' H' D I' q
  | ret v => exact q
  | brk => exact q
  | cont => exact q
theorem pss_one (h1 : PS X st t) : PSs X [st] t := by
  intro pins s σ H D I h
  refine wpAny_execs_cons (thn (h1 pins s σ H D I h) fun f s1 q => ?_)
  cases f with
  | next => exact wpAny_execs_nil q
  | ret v => exact q
  | brk => exact q
  | cont => exact q
def tRet (te : TE) : TS := fun D σ H => te σ H D.rt
theorem ps_ret (he : PE X e te) : PS X (.Return (some e) pos) (tRet te) := by
  intro pins s σ H D I h
  exact wpAny_Return_some (thn (he pins s σ H _ I h) fun v s1 ⟨x, H1, I1, r1, q1⟩ => ⟨x, σ, H1, I1, r1, q1⟩)
def tIfS (c : TT) (t u : TS) : TS := fun D σ H => c σ H fun b H1 => if b = true then t D σ H1 else u D σ H1
theorem ps_if {c : Expr} {a b : List Stmt} {tc : TT} (hc : PT X c tc) (ha : PSs X a t) (hb : PSs X b u) : PS X (.If c a b pos) (tIfS tc t u) := by
  intro pins s σ H D I h
  refine wpAny_If (thn (hc pins s σ H _ I h) fun d s1 ⟨H1, I1, q1⟩ => ?_)
  cases d with
  | true => exact ha pins s1 σ H1 D I1 q1
  | false => exact hb pins s1 σ H1 D I1 q1
end

/-! ### targets -/
abbrev TG := V → St → Hp → (St → Hp → Prop) → Prop
abbrev TGs := List V → St → Hp → (St → Hp → Prop) → Prop
def PG (X : Cx) (target : Expr) (t : TG) : Prop :=
  ∀ (pins : List (Addr × Obj)) (s : Shared) (σ : St) (H : Hp) (v : V) (u : Value) (Q : St → Hp → Prop), Inv X pins σ H s → RelV v u → t v σ H Q →
    wpAny (model X.prog X.w) X.A (assign target X.env u) (fun _ s' => ∃ σ' H', Inv X pins σ' H' s' ∧ Q σ' H') X.xe s
/-- several targets, one after another -/
def PGs (X : Cx) (ts : List Expr) (t : TGs) : Prop :=
  ∀ (pins : List (Addr × Obj)) (s : Shared) (σ : St) (H : Hp) (vs : List V) (us : List Value) (Q : St → Hp → Prop), Inv X pins σ H s → Vals vs us → t vs σ H Q →
    wpAny (model X.prog X.w) X.A (assignInOrder ((assignEach ts X.env).map (·.2)) us) (fun _ s' => ∃ σ' H', Inv X pins σ' H' s' ∧ Q σ' H') X.xe s
/-- o[i] = v, by values -/
abbrev TSet := V → V → V → Hp → (Hp → Prop) → Prop
def PSet (X : Cx) (t : TSet) : Prop :=
  ∀ (pins : List (Addr × Obj)) (s : Shared) (σ : St) (H : Hp) (o i v : V) (ov iv u : Value) (Q : Hp → Prop), Inv X pins σ H s → RelV o ov → RelV i iv → RelV v u → t o i v H Q →
    wpAny (model X.prog X.w) X.A (setItem ov iv u) (fun _ s' => ∃ H', Inv X pins σ H' s' ∧ Q H') X.xe s
section
variable {X : Cx} {pos : Pos}
def gName (i : Nat) : TG := fun v σ H Q => Q (σ.set i (some v)) H
theorem pg_name {i : Nat} {x : Str} (hN : X.N.Nodup) (hi : X.N[i]? = some x) (hx : Loc X.env.scope x) (hf : X.fn x = true ∨ X.env.scope.names.lookup x = some .local := by first | exact .inl rfl | exact .inr rfl | assumption) : PG X (.Name x pos) (gName i) := by
  intro pins s σ H v u Q I r h
  exact wpAny_assign_Name (store_ok I hN hi hx r (fun s' I' => ⟨_, H, I', h⟩) hf)
def gNil : TGs := fun vs σ H Q => vs = [] ∧ Q σ H
def gCons (t : TG) (u : TGs) : TGs := fun vs σ H Q => ∃ v r, vs = v :: r ∧ t v σ H fun σ' H' => u r σ' H' Q
theorem pgs_nil : PGs X [] gNil := by
  intro pins s σ H vs us Q I r h
  obtain ⟨e, h⟩ := h
  subst e
  cases r
  exact assignInOrder_nil ⟨σ, H, I, h⟩
theorem pgs_cons {e : Expr} {es : List Expr} {t : TG} {u : TGs} (h1 : PG X e t) (h2 : PGs X es u)
    (hs : (assignEach (e :: es) X.env).map (·.2) = assign e X.env :: (assignEach es X.env).map (·.2) := by rfl) : PGs X (e :: es) (gCons t u) := by
  intro pins s σ H vs us Q I r h
  obtain ⟨v, vr, e1, h⟩ := h
  subst e1
  cases r with
  | cons r rr =>
    rw [hs]
    refine assignInOrder_cons (thn (h1 pins s σ H _ _ _ I r h) fun _ s1 ⟨σ1, H1, I1, q1⟩ => ?_)
    exact h2 pins s1 σ1 H1 _ _ Q I1 rr q1
/-- (a, b, ..) = a tuple of that length -/
def gTup (K : PySem.W.Frag) (n : Nat) (t : TGs) : TG := fun v σ H Q => ∃ a xs, v = .ref a ∧ SqT K H a xs ∧ xs.length = n ∧ t xs σ H Q
theorem pg_tup {es : List Expr} {k : Nat} {t : TGs} {n : Nat} (hc : X.calm = true) (h : PGs X es t)
    (hn : (assignEach es X.env).length = n := by rfl) (hst : (assignEach es X.env).findIdx? (·.1) = none := by rfl) : PG X (.Tuple es k pos) (gTup X.K n t) := by
  intro pins s σ H v u Q I r hw
  obtain ⟨a, xs, e1, hq, hl, hw⟩ := hw
  subst e1
  cases r
  obtain ⟨its, rv, ht, hz⟩ := I.tuple hq
  refine assign_Tuple_tuple (I.ok.hd hc) ht (by simp [hn, ← hl, rv.length]) hst fun h' hx => ?_
  have I1 : Inv X pins σ H { s with heap := h' } := I.kept (t' := s.toks) fun b o e => hx b o (Nat.ne_of_lt (Heap.lt_size e)) e
  exact h pins _ σ H xs _ Q I1 (by simpa using rv) hw
/-- o[i] = .. -/
def gSub (to ti : TE) (t : TSet) : TG := fun v σ H Q => to σ H fun o H1 => ti σ H1 fun i H2 => t o i v H2 fun H3 => Q σ H3
theorem pg_sub {o i : Expr} {to ti : TE} {t : TSet} (ho : PE X o to) (hi : PE X i ti) (hs : PSet X t)
    (ha : ∀ v, assign (.Subscript o i pos) X.env v = (do
      let ov ← holding [v] (eval o X.env)
      let iv ← holding [v, ov] (eval i X.env)
      standAt pos
      holding [v, ov, iv] (setItem ov iv v)
      release [v, ov, iv] []) := by intro _; rfl) : PG X (.Subscript o i pos) (gSub to ti t) := by
  intro pins s σ H v u Q I r h
  rw [ha]
  refine wpAny_bind (wpAny_holding (thn (ho pins s σ H _ I h) fun ov s1 ⟨x, H1, I1, r1, q1⟩ => ?_))
  refine wpAny_bind (wpAny_holding (thn (hi pins s1 σ H1 _ I1 q1) fun iv s2 ⟨y, H2, I2, r2, q2⟩ => ?_))
  refine wpAny_bind (wpAny_standAt (wpAny_bind (wpAny_holding (thn (hs pins s2 σ H2 x y v ov iv u _ I2 r1 r2 r q2) fun _ s3 ⟨H3, I3, q3⟩ => ?_))))
  exact wpAny_release ⟨σ, H3, I3, q3⟩
/-- target = value -/
def tAsg (te : TE) (g : TG) : TS := fun D σ H => te σ H fun x H1 => g x σ H1 D.nx
theorem ps_asg {tg e : Expr} {te : TE} {g : TG} (he : PE X e te) (hg : PG X tg g) (hs : swapsWithSole [tg] e pos.line X.env = pure false := by rfl) (hw : swappedStores [tg] e X.env = pure none := by rfl)
    (h1 : (assignEach [tg] X.env).map (·.2) = [assign tg X.env] := by rfl) : PS X (.Assign [tg] e pos) (tAsg te g) := by
  intro pins s σ H D I h
  refine wpAny_Assign_stores (thn (he pins s σ H _ I h) fun v s1 ⟨x, H1, I1, r1, q1⟩ => ?_) hs hw
  rw [h1]
  exact thn (hg pins s1 σ H1 x v _ I1 r1 q1) fun _ s2 q => q
/-- name = value -/
theorem ps_set {i : Nat} {x : Str} {e : Expr} {te : TE} {pos' : Pos} (hN : X.N.Nodup) (hi : X.N[i]? = some x) (hx : Loc X.env.scope x) (he : PE X e te) (hs : swapsWith e (some (.Name x pos')) pos.line X.env = pure false := by rfl) (hf : X.fn x = true ∨ X.env.scope.names.lookup x = some .local := by first | exact .inl rfl | exact .inr rfl | assumption) :
    PS X (.Assign [.Name x pos'] e pos) (tAsg te (gName i)) := by
  intro pins s σ H D I h
  refine wpAny_Assign_Name (thn (he pins s σ H _ I h) fun v s1 ⟨y, H1, I1, r1, q1⟩ => ?_) hs
  exact store_ok I1 hN hi hx r1 (fun s2 I2 => ⟨_, H1, I2, q1⟩) hf
end

/-! ### while -/
section
variable {X : Cx} {pos : Pos}
/-- the invariant W with its measure -/
def tWhile (c : TT) (tb : TS) : TS := fun D σ H => ∃ W : Nat → St → Hp → Prop, (∃ m, W m σ H) ∧ ∀ m σ H, W m σ H →
  c σ H fun b H1 => if b = true then ∃ N : St → Hp → Prop, (∀ σ' H', N σ' H' → ∃ m', m' < m ∧ W m' σ' H') ∧ tb { D with nx := N, ct := N, bk := D.nx } σ H1 else D.nx σ H1
theorem ps_while {c : Expr} {body : List Stmt} {tc : TT} {tb : TS} (hp : PassesOwn (model X.prog X.w) X.A X.env X.xe) (hc : PT X c tc) (hb : PSs X body tb) : PS X (.While c body [] pos) (tWhile tc tb) := by
  intro pins s σ H D I h
  obtain ⟨W, ⟨m0, w0⟩, turn⟩ := h
  refine wpAny_While (codeAny_whileLoop (fun n s' => ∃ σ' H', Inv X pins σ' H' s' ∧ W n σ' H') ?_ m0 ⟨σ, H, I, w0⟩)
  rintro n s1 ⟨σ1, H1, I1, w1⟩
  refine wpAny_passesOwn hp (thn (hc pins s1 σ1 H1 _ I1 (turn n σ1 H1 w1)) fun b s2 ⟨H2, I2, q2⟩ => ?_)
  cases b with
  | true =>
    obtain ⟨N, hN, q2⟩ := q2
    rw [if_pos rfl]
    refine wpAny_passesOwn hp (thn (hb pins s2 σ1 H2 _ I2 q2) fun f s3 q3 => ?_)
    cases f with
    | next =>
      obtain ⟨σ3, H3, I3, n3⟩ := q3
      obtain ⟨m', hm, w3⟩ := hN σ3 H3 n3
      exact ⟨m', hm, σ3, H3, I3, w3⟩
    | cont =>
      obtain ⟨σ3, H3, I3, n3⟩ := q3
      obtain ⟨m', hm, w3⟩ := hN σ3 H3 n3
      exact ⟨m', hm, σ3, H3, I3, w3⟩
    | brk => exact q3
    | ret v => exact q3
  | false =>
    rw [if_neg Bool.false_ne_true]
    exact wpAny_execs_nil ⟨σ1, H2, I2, q2⟩
end

/-! ### what a loop or a comprehension walks -/
/-- at turn i: it yields x (the heap may grow), or it stops -/
structure It where
  go : Nat → Hp → Prop
  yld : Nat → Hp → V → Hp → Prop
  stop : Nat → Hp → Prop
/-- the iterator's own objects may turn: they are not the frame's, not pinned, younger than the entry (or a comprehension's own) -/
def FpOk (X : Cx) (pins : List (Addr × Obj)) (H : Hp) (b : Addr) : Prop :=
  H b = none ∧ b ≠ X.env.locals ∧ b ∉ X.fs ∧ (b ∈ X.ex ∨ X.s₀.heap.objs.size ≤ b) ∧ (∀ x c, X.env.cells.lookup x = some c → c ≠ b) ∧ ∀ p ∈ X.pn ++ pins, p.1 ≠ b
theorem Inv.fpOk {X : Cx} {pins : List (Addr × Obj)} {σ : St} {H H' : Hp} {s : Shared} {b : Addr} (I : Inv X pins σ H s) (hb : s.heap.objs.size ≤ b) (hn : H' b = none) : FpOk X pins H' b := by
  refine ⟨hn, Nat.ne_of_gt (Nat.lt_of_lt_of_le I.lt hb), I.nofs hb, .inr (Nat.le_trans I.sz hb), fun x c e z => ?_, fun p hp z => ?_⟩
  · obtain ⟨v, q⟩ := I.cell x c e
    exact absurd (Nat.lt_of_lt_of_le q.lt (by rw [z]; exact hb)) (Nat.lt_irrefl _)
  · exact absurd (Nat.lt_of_lt_of_le (Heap.lt_size (I.pin p hp).1) (by rw [z]; exact hb)) (Nat.lt_irrefl _)
structure Turn (P : Program) (w : World) (K : PySem.W.Frag) (tg : Expr) (J : It) (fp : List Addr) (it : Addr) (tn : Nat → Heap → Prop) : Prop where
  mem : it ∈ fp
  obj : ∀ i h, tn i h → ∀ b ∈ fp, ∃ o, h.get? b = some o ∧ ∀ v, o.data ≠ .cell v
  keep : ∀ i h h', tn i h → (∀ b ∈ fp, ∀ o, h.get? b = some o → h'.get? b = some o) → tn i h'
  item : ∀ (X : Cx), X.prog = P → X.w = w → X.K = K → X.calm = true → ∀ (i : Nat) (pins : List (Addr × Obj)) (s : Shared) (σ : St) (H : Hp) (E : Value → Shared → Prop), Inv X pins σ H s → (∀ b ∈ fp, FpOk X pins H b) → tn i s.heap → J.go i H →
    wpAny (model P w) X.A (pyNext (.ref it)) (fun r s1 => ∃ u, r = some u ∧
      wpAny (model P w) X.A (letOwnedTupleGo tg (.ref it) u) (fun _ s2 => ∃ x H', Inv X pins σ H' s2 ∧ RelV x u ∧ J.yld i H x H' ∧ tn (i + 1) s2.heap ∧ ∀ b ∈ fp, H' b = none) E s1) E s
  done : ∀ (X : Cx), X.prog = P → X.w = w → X.K = K → X.calm = true → ∀ (i : Nat) (pins : List (Addr × Obj)) (s : Shared) (σ : St) (H : Hp) (E : Value → Shared → Prop), Inv X pins σ H s → (∀ b ∈ fp, FpOk X pins H b) → tn i s.heap → J.stop i H →
    wpAny (model P w) X.A (pyNext (.ref it)) (fun r s1 => r = none ∧ Inv X pins σ H s1) E s
  self : ∀ (A : Around) (i : Nat) (s : Shared) (Q : Value → Shared → Prop) (E : Value → Shared → Prop), tn i s.heap → Q (.ref it) s → wpAny (model P w) A (pyIter (.ref it)) Q E s
abbrev TI := St → Hp → (It → Hp → Prop) → Prop
/-- an iterator has come -/
def PIE (X : Cx) (pins : List (Addr × Obj)) (σ : St) (tg : Expr) (R : It → Hp → Prop) (itv : Value) (s2 : Shared) : Prop :=
  ∃ (it : Addr) (fp : List Addr) (tn : Nat → Heap → Prop) (J : It) (H' : Hp), itv = .ref it ∧ Inv X pins σ H' s2 ∧ Turn X.prog X.w X.K tg J fp it tn ∧ tn 0 s2.heap ∧ (∀ b ∈ fp, FpOk X pins H' b) ∧ R J H'
def PI (X : Cx) (tg iter : Expr) (wi : TI) : Prop :=
  ∀ (pins : List (Addr × Obj)) (s : Shared) (σ : St) (H : Hp) (R : It → Hp → Prop), Inv X pins σ H s → wi σ H R →
    wpAny (model X.prog X.w) X.A (eval iter X.env) (fun v s1 => wpAny (model X.prog X.w) X.A (pyIter v) (PIE X pins σ tg R) X.xe s1) X.xe s

/-- the step ahead of the store is nothing for an iterator that keeps no tuple -/
theorem go_of {M : Model} {A : Around} {E : Value → Shared → Prop} {s : Shared} {tg : Expr} {it : Addr} {u : Value} {o : Obj} {n : String} {vs : Array Value} {Q : Unit → Shared → Prop} (ho : s.heap.get? it = some o) (hc : o.cls = .type n) (hd : o.data = .fields vs)
    (hn : ["enumerate", "zip", "dict_itemiterator", "dict_reverseitemiterator", "odict_iterator", "itertools.zip_longest", "itertools.pairwise"].contains n = false) (hQ : Q () s) : wpAny M A (letOwnedTupleGo tg (.ref it) u) Q E s := by
  unfold letOwnedTupleGo
  cases tg <;> first
    | exact wpAny_pure hQ
    | (cases u <;> first
        | exact wpAny_pure hQ
        | (refine wpAny_bind (wpAny_load ho ?_)
           rw [hc, hd]
           show wpAny M A (if (["enumerate", "zip", "dict_itemiterator", "dict_reverseitemiterator", "odict_iterator", "itertools.zip_longest", "itertools.pairwise"].contains n && vs[0]? == some (rawInt _)) = true then _ else _) Q E s
           rw [if_neg (by intro h; rw [hn, Bool.false_and] at h; cases h)]
           exact wpAny_pure hQ))

/-- the list at a, as it stands at each turn (a loop may append to it) -/
def Itl (K : PySem.W.Frag) (a : Addr) : It :=
  ⟨fun i H => ∃ xs x, SqL K H a xs ∧ xs[i]? = some x, fun i H x H' => H' = H ∧ ∀ xs, SqL K H a xs → xs[i]? = some x, fun i H => ∃ xs, SqL K H a xs ∧ xs.length ≤ i⟩
def Itt (K : PySem.W.Frag) (a : Addr) : It :=
  ⟨fun i H => ∃ xs x, SqT K H a xs ∧ xs[i]? = some x, fun i H x H' => H' = H ∧ ∀ xs, SqT K H a xs → xs[i]? = some x, fun i H => ∃ xs, SqT K H a xs ∧ xs.length ≤ i⟩
/-- lo, lo + 1, .. (n of them) -/
def Itr (lo : Int) (n : Nat) : It := ⟨fun i _ => i < n, fun i H x H' => H' = H ∧ x = .int (lo + i), fun i _ => n ≤ i⟩
theorem turn_list {P : Program} {w : World} {K : PySem.W.Frag} {tg : Expr} (a it : Addr) : Turn P w K tg (Itl K a) [it] it (fun i h => h.IsListIter it a i) where
  mem := by simp
  obj := fun i h st b hb => by
    have e : b = it := by simpa using hb
    subst e
    obtain ⟨o, e, c, d⟩ := st
    exact ⟨o, e, fun v z => by rw [d] at z; cases z⟩
  keep := fun i h h' st k => st.at fun o e => k it (by simp) o e
  item := by
    intro X hP hw hK hc i pins s σ H E I hf st hg
    subst hP hw hK
    obtain ⟨xs, x, hq, hx⟩ := hg
    obtain ⟨its, rv, p, hz⟩ := I.list hq
    obtain ⟨u, hu, ru⟩ := rv.get hx
    obtain ⟨f0, f1, f2, f3, f4, f5⟩ := hf it (by simp)
    refine wpAny_pyNext_list_item st p.isList (x := u) (by simpa using hu) fun h' st' sb => ?_
    have I1 : Inv X pins σ H { s with heap := h' } := I.turned (t' := s.toks) (fun b o hb e => (sb.2 b hb).trans e) f0 f1 f3 f4 f5
    obtain ⟨o, e, c, d⟩ := id st'
    exact ⟨u, rfl, go_of (s := { s with heap := h' }) e c d (by decide) ⟨x, H, I1, ru, ⟨rfl, fun ys hy => by rw [I.list_inj hy hq]; exact hx⟩, st', fun b hb => (hf b hb).1⟩⟩
  done := by
    intro X hP hw hK hc i pins s σ H E I hf st hg
    subst hP hw hK
    obtain ⟨xs, hq, hx⟩ := hg
    obtain ⟨its, rv, p, hz⟩ := I.list hq
    obtain ⟨f0, f1, f2, f3, f4, f5⟩ := hf it (by simp)
    have hl := rv.length
    exact wpAny_pyNext_list_end (I.ok.hd hc) st p.isList (by simp; omega) fun h' eb => ⟨rfl, I.turned (t' := s.toks) (fun b o hb e => eb b o hb e) f0 f1 f3 f4 f5⟩
  self := fun _ _ _ _ _ st h => wpAny_pyIter_listiter st h
theorem turn_tuple {P : Program} {w : World} {K : PySem.W.Frag} {tg : Expr} (a it : Addr) : Turn P w K tg (Itt K a) [it] it (fun i h => h.IsTupleIter it a i) where
  mem := by simp
  obj := fun i h st b hb => by
    have e : b = it := by simpa using hb
    subst e
    obtain ⟨o, e, c, d⟩ := st
    exact ⟨o, e, fun v z => by rw [d] at z; cases z⟩
  keep := fun i h h' st k => st.at fun o e => k it (by simp) o e
  item := by
    intro X hP hw hK hc i pins s σ H E I hf st hg
    subst hP hw hK
    obtain ⟨xs, x, hq, hx⟩ := hg
    obtain ⟨its, rv, p, hz⟩ := I.tuple hq
    obtain ⟨u, hu, ru⟩ := rv.get hx
    obtain ⟨f0, f1, f2, f3, f4, f5⟩ := hf it (by simp)
    refine wpAny_pyNext_tuple_item st (show s.heap.IsTuple a its.toArray from p) (x := u) (by simpa using hu) fun h' st' sb => ?_
    have I1 : Inv X pins σ H { s with heap := h' } := I.turned (t' := s.toks) (fun b o hb e => (sb.2 b hb).trans e) f0 f1 f3 f4 f5
    obtain ⟨o, e, c, d⟩ := id st'
    exact ⟨u, rfl, go_of (s := { s with heap := h' }) e c d (by decide) ⟨x, H, I1, ru, ⟨rfl, fun ys hy => by rw [I.tuple_inj hy hq]; exact hx⟩, st', fun b hb => (hf b hb).1⟩⟩
  done := by
    intro X hP hw hK hc i pins s σ H E I hf st hg
    subst hP hw hK
    obtain ⟨xs, hq, hx⟩ := hg
    obtain ⟨its, rv, p, hz⟩ := I.tuple hq
    obtain ⟨f0, f1, f2, f3, f4, f5⟩ := hf it (by simp)
    have hl := rv.length
    exact wpAny_pyNext_tuple_end (I.ok.hd hc) st (show s.heap.IsTuple a its.toArray from p) (by simp; omega) fun h' eb => ⟨rfl, I.turned (t' := s.toks) (fun b o hb e => eb b o hb e) f0 f1 f3 f4 f5⟩
  self := fun _ _ _ _ _ st h => wpAny_pyIter_tupleiter st h
theorem turn_range {P : Program} {w : World} {K : PySem.W.Frag} {tg : Expr} (it : Addr) (lo : Int) (n : Nat) : Turn P w K tg (Itr lo n) [it] it (fun i h => IsRangeIter h it (lo + (i : Nat) * 1) ((n : Int) - (i : Nat)) 1) where
  mem := by simp
  obj := fun i h st b hb => by
    have e : b = it := by simpa using hb
    subst e
    exact ⟨_, st, fun v z => by
      have z' : Data.fields _ = Data.cell v := z
      cases z'⟩
  keep := fun i h h' st k => k it (by simp) _ st
  item := by
    intro X hP hw hK hc i pins s σ H E I hf st hg
    subst hP hw hK
    obtain ⟨f0, f1, f2, f3, f4, f5⟩ := hf it (by simp)
    have W := Walks.range (prog := X.prog) (w := X.w) (I.ok.hd hc) it lo 1 n
    refine W.item i s _ _ hg st fun v h' tk hv st' kk => ?_
    obtain ⟨t, rfl⟩ := hv
    have I1 : Inv X pins σ H { s with heap := h', toks := tk } := I.turned (fun b o hb e => kk b o (by simpa using hb) e) f0 f1 f3 f4 f5
    refine ⟨_, rfl, go_of (s := { s with heap := h', toks := tk }) (n := "range_iterator") st' rfl rfl (by decide) ⟨.int (lo + i), H, I1, ⟨t, ?_⟩, ⟨rfl, rfl⟩, st', fun b hb => (hf b hb).1⟩⟩
    rw [Int.mul_one]
  done := by
    intro X hP hw hK hc i pins s σ H E I hf st hg
    subst hP hw hK
    obtain ⟨f0, f1, f2, f3, f4, f5⟩ := hf it (by simp)
    exact wpAny_pyNext_range_end (I.ok.hd hc) st (by have : n ≤ i := hg; omega) fun h' eb => ⟨rfl, I.turned (t' := s.toks) (fun b o hb e => eb b o hb e) f0 f1 f3 f4 f5⟩
  self := fun _ _ _ _ _ st h => wpAny_pyIter_rangeiter st h
end L2

namespace L2
open PySem PySem.Spec PyProof.Rows
section
variable {X : Cx} {tg : Expr}
/-- a range object just made, walked -/
theorem range_it {pins : List (Addr × Obj)} {σ : St} {H : Hp} {s : Shared} {R : It → Hp → Prop} {E : Value → Shared → Prop} {lo hi : Int} {t u v : Tok} {tk : Nat} (I : Inv X pins σ H s) (h1 : -(2 ^ 62) ≤ lo) (h2 : lo < 2 ^ 62) (h3 : -(2 ^ 62) ≤ hi) (h4 : hi < 2 ^ 62)
    (q : R (Itr lo (hi - lo).toNat) H) : wpAny (model X.prog X.w) X.A (pyIter (.ref s.heap.objs.size)) (PIE X pins σ tg R) E { s with heap := s.heap.push { cls := .type "range", data := .fields #[.int lo t, .int hi u, .int 1 v] }, toks := tk } := by
  refine wpAny_pyIter_range (IsRange.new ..) (small_one h1 h2 h3 h4) ?_
  have I1 : Inv X pins σ H { s with heap := s.heap.push { cls := .type "range", data := .fields #[.int lo t, .int hi u, .int 1 v] }, toks := tk } := I.kept fun b o e => Heap.get?_push_of_some _ e
  refine ⟨(s.heap.push { cls := .type "range", data := .fields #[.int lo t, .int hi u, .int 1 v] }).objs.size, [(s.heap.push { cls := .type "range", data := .fields #[.int lo t, .int hi u, .int 1 v] }).objs.size], _, _, H, rfl,
    I1.kept (t' := tk) fun b o e => Heap.get?_push_of_some _ e, turn_range _ lo (hi - lo).toNat, ?_, fun b hb => ?_, q⟩
  · have e1 : lo + ((0 : Nat) : Int) * 1 = lo := by simp
    have e2 : (((hi - lo).toNat : Nat) : Int) - ((0 : Nat) : Int) = Builtin.Range.rangeSize lo hi 1 := by rw [rangeSize_one]; split <;> omega
    show IsRangeIter _ _ (lo + ((0 : Nat) : Int) * 1) ((((hi - lo).toNat : Nat) : Int) - ((0 : Nat) : Int)) 1
    rw [e1, e2]
    exact Heap.get?_push_size _ rfl
  · have e : b = (s.heap.push { cls := .type "range", data := .fields #[.int lo t, .int hi u, .int 1 v] }).objs.size := by simpa using hb
    subst e
    exact I1.fpOk (Nat.le_refl _) (I1.hok.fresh (Nat.le_refl _))
def iRng1 (ta : TA) : TI := fun σ H R => ta σ H fun vs H1 => ∃ j : Int, vs = [.int j] ∧ -(2 ^ 62) ≤ j ∧ j < 2 ^ 62 ∧ R (Itr 0 j.toNat) H1
def iRng2 (ta : TA) : TI := fun σ H R => ta σ H fun vs H1 => ∃ i j : Int, vs = [.int i, .int j] ∧ (-(2 ^ 62) ≤ i ∧ i < 2 ^ 62 ∧ -(2 ^ 62) ≤ j ∧ j < 2 ^ 62) ∧ R (Itr i (j - i).toNat) H1
theorem pi_range1 {a : Expr} {ta : TA} {p pos : Pos} (hg : Gl X "range") (hm : X.mg "range" = none) (ha : PA X [a] ta) (hs : starEach [a] X.env = [(false, eval a X.env)] := by rfl) : PI X tg (.Call (.Name "range" p) [a] [] pos) (iRng1 ta) := by
  intro pins s σ H R I h
  refine Call_ (ld_blt I hg hm boot_range (PyProof.Rows.callWith_type1 (thn (ha pos pins s σ H _ I h) fun us s1 ⟨vs, H1, I1, r1, q1⟩ => ?_) hs rfl))
  obtain ⟨j, e, q1, q2, q⟩ := q1
  subst e
  cases r1 with
  | cons r rr =>
    cases rr
    obtain ⟨t, rfl⟩ := r
    exact call_range_1 (range_it I1 (by omega) (by omega) q1 q2 (by simpa using q))
theorem pi_range2 {a b : Expr} {ta : TA} {p pos : Pos} (hg : Gl X "range") (hm : X.mg "range" = none) (ha : PA X [a, b] ta) (hs : starEach [a, b] X.env = [(false, eval a X.env), (false, eval b X.env)] := by rfl) (hs2 : starEach [b] X.env = [(false, eval b X.env)] := by rfl) :
    PI X tg (.Call (.Name "range" p) [a, b] [] pos) (iRng2 ta) := by
  intro pins s σ H R I h
  refine Call_ (ld_blt I hg hm boot_range (PyProof.Rows.callWith_type1 (thn (ha pos pins s σ H _ I h) fun us s1 ⟨vs, H1, I1, r1, q1⟩ => ?_) (by rw [hs, hs2]) (by rw [hs2]; rfl)))
  obtain ⟨i, j, e, ⟨q1, q2, q3, q4⟩, q⟩ := q1
  subst e
  cases r1 with
  | cons r rr =>
    cases rr with
    | cons r' rr =>
      cases rr
      obtain ⟨t, rfl⟩ := r
      obtain ⟨t', rfl⟩ := r'
      exact call_range_2 (range_it I1 q1 q2 q3 q4 q)

/-! ### for -/
/-- W: the invariant by the turn and a measure; N: what the body is to reach -/
def tFor (wi : TI) (g : TG) (tb : TS) : TS := fun D σ H => wi σ H fun J H1 => ∃ W : Nat → Nat → St → Hp → Prop, (∃ m, W 0 m σ H1) ∧ ∀ i m σ H, W i m σ H →
  (J.stop i H ∧ D.nx σ H) ∨ (J.go i H ∧ ∃ N : St → Hp → Prop, (∀ σ' H', N σ' H' → ∃ m', m' < m ∧ W (i + 1) m' σ' H') ∧ ∀ x H', J.yld i H x H' → g x σ H' fun σ2 H2 => tb { D with nx := N, ct := N, bk := D.nx } σ2 H2)
/-- the records at fp as they stand -/
def pinsAt (fp : List Addr) (h : Heap) : List (Addr × Obj) := fp.filterMap fun b => (h.get? b).map fun o => (b, o)
theorem mem_pinsAt {fp : List Addr} {h : Heap} {b : Addr} {o : Obj} (hb : b ∈ fp) (e : h.get? b = some o) : (b, o) ∈ pinsAt fp h := List.mem_filterMap.mpr ⟨b, hb, by rw [e]; rfl⟩
theorem of_pinsAt {fp : List Addr} {h : Heap} {p : Addr × Obj} (hp : p ∈ pinsAt fp h) : p.1 ∈ fp ∧ h.get? p.1 = some p.2 := by
  obtain ⟨b, hb, e⟩ := List.mem_filterMap.mp hp
  cases q : h.get? b with
  | none => rw [q] at e; cases e
  | some o =>
    rw [q] at e
    have e' : (b, o) = p := Option.some.inj e
    subst e'
    exact ⟨hb, q⟩
theorem Inv.pinned {pins : List (Addr × Obj)} {σ : St} {H : Hp} {s : Shared} {fp : List Addr} (I : Inv X pins σ H s) (hf : ∀ b ∈ fp, FpOk X pins H b) (ho : ∀ b ∈ fp, ∃ o, s.heap.get? b = some o ∧ ∀ v, o.data ≠ .cell v) : Inv X (pins ++ pinsAt fp s.heap) σ H s :=
  I.pins_of fun p hp => (List.mem_append.mp hp).elim (fun z => I.pin p (List.mem_append_right _ z)) fun z => by
    obtain ⟨hb, e⟩ := of_pinsAt z
    obtain ⟨f0, f1, f2, _⟩ := hf p.1 hb
    obtain ⟨o, e', d⟩ := ho p.1 hb
    rw [e] at e'; cases e'
    exact ⟨e, f0, f1, f2, d⟩
theorem Inv.unpinned {pins pl : List (Addr × Obj)} {σ : St} {H : Hp} {s : Shared} (I : Inv X (pins ++ pl) σ H s) : Inv X pins σ H s := I.pins_of fun p hp => I.pin p (List.mem_append_right _ (List.mem_append_left _ hp))
theorem ps_for {iter : Expr} {body : List Stmt} {wi : TI} {g : TG} {tb : TS} {pos : Pos} (hp : PassesOwn (model X.prog X.w) X.A X.env X.xe) (hc : X.calm = true) (hi : PI X tg iter wi) (hg : PG X tg g) (hb : PSs X body tb)
    (hs : ∀ x, foldedSetIterable iter X.env x = pure x := by intro _; rfl) : PS X (.For tg iter body [] pos) (tFor wi g tb) := by
  intro pins s σ H D I h
  refine wpAny_For (thn (hi pins s σ H _ I h) fun v s1 h1 => thn h1 fun itv s2 h2 => ?_) hs
  obtain ⟨it, fp, tn, J, H2, e, I2, T, st2, f2, W, ⟨m0, w0⟩, turn⟩ := h2
  subst e
  -- what stays true of the iterator's objects through the loop
  have stat : ∀ {H' : Hp}, (∀ b ∈ fp, H' b = none) → ∀ b ∈ fp, FpOk X pins H' b := fun hn b hb => ⟨hn b hb, (f2 b hb).2⟩
  refine codeAny_forLoop_any (fun n s' => ∃ i σ' H', Inv X pins σ' H' s' ∧ tn i s'.heap ∧ (∀ b ∈ fp, H' b = none) ∧ W i n σ' H') ?_ m0 ⟨0, σ, H2, I2, st2, fun b hb => (f2 b hb).1, w0⟩
  rintro n s3 ⟨i, σ3, H3, I3, st3, fr3, w3⟩
  rcases turn i n σ3 H3 w3 with ⟨stop, qn⟩ | ⟨go, N, hN, step⟩
  · refine wpAny_passesOwn hp (thn (T.done X rfl rfl rfl hc i pins s3 σ3 H3 X.xe I3 (stat fr3) st3 stop) fun r s4 ⟨hr, I4⟩ => ?_)
    subst hr
    exact wpAny_execs_nil ⟨σ3, H3, I4, qn⟩
  · refine wpAny_passesOwn hp (thn (T.item X rfl rfl rfl hc i pins s3 σ3 H3 X.xe I3 (stat fr3) st3 go) fun r s4 ⟨u, hr, h4⟩ => ?_)
    subst hr
    refine wpAny_passesOwn hp (thn h4 fun _ s5 ⟨x, H5, I5, r5, y5, st5, fr5⟩ => ?_)
    have I5' := I5.pinned (stat fr5) (T.obj _ _ st5)
    refine wpAny_passesOwn hp (thn (hg _ s5 σ3 H5 x u _ I5' r5 (step x H5 y5)) fun _ s6 ⟨σ6, H6, I6, q6⟩ => ?_)
    refine wpAny_passesOwn hp (thn (hb _ s6 σ6 H6 _ I6 q6) fun f s7 q7 => ?_)
    have again : ∀ {σ7 : St} {H7 : Hp}, Inv X (pins ++ pinsAt fp s5.heap) σ7 H7 s7 → N σ7 H7 → ∃ m, m < n ∧ ∃ i σ' H', Inv X pins σ' H' s7 ∧ tn i s7.heap ∧ (∀ b ∈ fp, H' b = none) ∧ W i m σ' H' := fun {σ7 H7} I7 n7 => by
      obtain ⟨m', hm, w7⟩ := hN σ7 H7 n7
      refine ⟨m', hm, i + 1, σ7, H7, I7.unpinned, T.keep _ _ _ st5 fun b hb o e => (I7.pin (b, o) (List.mem_append_right _ (List.mem_append_right _ (mem_pinsAt hb e)))).1, fun b hb => ?_, w7⟩
      obtain ⟨o, e, d⟩ := T.obj _ _ st5 b hb
      exact (I7.pin (b, o) (List.mem_append_right _ (List.mem_append_right _ (mem_pinsAt hb e)))).2.1
    cases f with
    | next => obtain ⟨σ7, H7, I7, n7⟩ := q7; exact again I7 n7
    | cont => obtain ⟨σ7, H7, I7, n7⟩ := q7; exact again I7 n7
    | brk => obtain ⟨σ7, H7, I7, q7⟩ := q7; exact ⟨σ7, H7, I7.unpinned, q7⟩
    | ret v => obtain ⟨x7, σ7, H7, I7, r7, q7⟩ := q7; exact ⟨x7, σ7, H7, I7.unpinned, r7, q7⟩
end

/-! ### the forms one uses -/
end L2

namespace L2
open PySem PySem.Spec PyProof.Rows

abbrev R2 := V → V → Hp → VK → Prop
/-- a two-place operation on values: f is binaryOp op, inplaceOp op or compareOp op -/
def OpR (X : Cx) (f : Value → Value → Sem Value) (r : R2) : Prop :=
  ∀ (pins : List (Addr × Obj)) (s : Shared) (σ : St) (H : Hp) (x y : V) (v u : Value) (Q : VK), Inv X pins σ H s → RelV x v → RelV y u → r x y H Q →
    wpAny (model X.prog X.w) X.A (f v u) (EP X pins σ Q) X.xe s
/-- a one-place operation -/
def UnR (X : Cx) (f : Value → Sem Value) (r : V → Hp → VK → Prop) : Prop :=
  ∀ (pins : List (Addr × Obj)) (s : Shared) (σ : St) (H : Hp) (x : V) (v : Value) (Q : VK), Inv X pins σ H s → RelV x v → r x H Q →
    wpAny (model X.prog X.w) X.A (f v) (EP X pins σ Q) X.xe s
/-- a call of a value that is known (a builtin, a type) with values -/
def CallR (X : Cx) (f : Value) (r : List V → Hp → VK → Prop) : Prop :=
  ∀ (pins : List (Addr × Obj)) (s : Shared) (σ : St) (H : Hp) (xs : List V) (us : List Value) (Q : VK), Inv X pins σ H s → Vals xs us → r xs H Q →
    wpAny (model X.prog X.w) X.A (call f us) (EP X pins σ Q) X.xe s
/-- a value's truth -/
def TruR (X : Cx) (r : V → Hp → (Bool → Hp → Prop) → Prop) : Prop :=
  ∀ (pins : List (Addr × Obj)) (s : Shared) (σ : St) (H : Hp) (x : V) (v : Value) (Q : Bool → Hp → Prop), Inv X pins σ H s → RelV x v → r x H Q →
    wpAny (model X.prog X.w) X.A (truthy v) (TP X pins σ Q) X.xe s

def tOp (r : R2) (ta tb : TE) : TE := fun σ H Q => ta σ H fun x H1 => tb σ H1 fun y H2 => r x y H2 Q
def tUn (r : V → Hp → VK → Prop) (ta : TE) : TE := fun σ H Q => ta σ H fun x H1 => r x H1 Q
/-- ints in, under C, and a value out -/
def rI (C : Int → Int → Prop) (g : Int → Int → V) : R2 := fun x y H Q => ∃ i j, x = .int i ∧ y = .int j ∧ C i j ∧ Q (g i j) H
def rI0 (g : Int → Int → V) : R2 := fun x y H Q => ∃ i j, x = .int i ∧ y = .int j ∧ Q (g i j) H
def rU (g : Int → V) : V → Hp → VK → Prop := fun x H Q => ∃ i, x = .int i ∧ Q (g i) H

section
variable {X : Cx} {a b c : Expr} {ta tb tc : TE} {pos : Pos}

theorem binT (ha : PE X a ta) (hb : PE X b tb) {pins : List (Addr × Obj)} {s : Shared} {σ : St} {H : Hp} {R : V → V → Hp → Prop} (I : Inv X pins σ H s)
    (h : ta σ H fun x H1 => tb σ H1 fun y H2 => R x y H2) {Q : Value → Shared → Prop} {f : Value → Value → Sem Value}
    (hf : ∀ v u s2 x y H2, Inv X pins σ H2 s2 → RelV x v → RelV y u → R x y H2 → wpAny (model X.prog X.w) X.A (f v u) Q X.xe s2) :
    wpAny (model X.prog X.w) X.A (eval a X.env) (fun v s₁ => wpAny (model X.prog X.w) X.A (eval b X.env) (fun u s₂ => wpAny (model X.prog X.w) X.A (f v u) Q X.xe s₂) X.xe s₁) X.xe s := by
  refine thn (ha pins s σ H _ I h) fun v s1 ⟨x, H1, I1, r1, q1⟩ => ?_
  refine thn (hb pins s1 σ H1 _ I1 q1) fun u s2 ⟨y, H2, I2, r2, q2⟩ => ?_
  exact hf v u s2 x y H2 I2 r1 r2 q2

theorem pe_op {op : Operator} {r : R2} (ho : OpR X (binaryOp op) r) (ha : PE X a ta) (hb : PE X b tb) : PE X (.BinOp a op b pos) (tOp r ta tb) := by
  intro pins s σ H Q I h
  exact wpAny_BinOp (binT ha hb I h fun v u s2 x y H2 I2 rx ry q => ho pins s2 σ H2 x y v u Q I2 rx ry q)
theorem pe_un {op : UnaryOp} {r : V → Hp → VK → Prop} (ho : UnR X (unaryOp op) r) (ha : PE X a ta) : PE X (.UnaryOp op a pos) (tUn r ta) := by
  intro pins s σ H Q I h
  exact UnaryOp_ (thn (ha pins s σ H _ I h) fun v s1 ⟨x, H1, I1, r1, q1⟩ => ho pins s1 σ H1 x v Q I1 r1 q1)

/-! ### ints -/
theorem opI {f : Value → Value → Sem Value} {C : Int → Int → Prop} {g : Int → Int → Int}
    (rule : ∀ (i j : Int) (t u : Tok) (s : Shared) (Q : Value → Shared → Prop) (E : Value → Shared → Prop), C i j → Q (.int (g i j) s.toks) { s with toks := s.toks + 1 } → wpAny (model X.prog X.w) X.A (f (.int i t) (.int j u)) Q E s) :
    OpR X f (rI C fun i j => .int (g i j)) := by
  intro pins s σ H x y v u Q I rx ry h
  obtain ⟨i, j, rfl, rfl, hc, q⟩ := h
  obtain ⟨t, rfl⟩ := rx
  obtain ⟨t', rfl⟩ := ry
  exact rule i j t t' s _ _ hc ⟨.int (g i j), H, I.tok _, ⟨_, rfl⟩, q⟩
theorem opI0 {f : Value → Value → Sem Value} {g : Int → Int → Int}
    (rule : ∀ (i j : Int) (t u : Tok) (s : Shared) (Q : Value → Shared → Prop) (E : Value → Shared → Prop), Q (.int (g i j) s.toks) { s with toks := s.toks + 1 } → wpAny (model X.prog X.w) X.A (f (.int i t) (.int j u)) Q E s) :
    OpR X f (rI0 fun i j => .int (g i j)) := by
  intro pins s σ H x y v u Q I rx ry h
  obtain ⟨i, j, rfl, rfl, q⟩ := h
  obtain ⟨t, rfl⟩ := rx
  obtain ⟨t', rfl⟩ := ry
  exact rule i j t t' s _ _ ⟨.int (g i j), H, I.tok _, ⟨_, rfl⟩, q⟩
theorem opB0 {f : Value → Value → Sem Value} {g : Int → Int → Bool}
    (rule : ∀ (i j : Int) (t u : Tok) (s : Shared) (Q : Value → Shared → Prop) (E : Value → Shared → Prop), Q (.bool (g i j)) s → wpAny (model X.prog X.w) X.A (f (.int i t) (.int j u)) Q E s) :
    OpR X f (rI0 fun i j => .bl (g i j)) := by
  intro pins s σ H x y v u Q I rx ry h
  obtain ⟨i, j, rfl, rfl, q⟩ := h
  obtain ⟨t, rfl⟩ := rx
  obtain ⟨t', rfl⟩ := ry
  exact rule i j t t' s _ _ ⟨.bl (g i j), H, I, rfl, q⟩

def CDiv (i j : Int) : Prop := 0 < j ∧ j < 1073741824
def CDivN (i j : Int) : Prop := j ≠ 0 ∧ j.natAbs < 1073741824
def CPow (i j : Int) : Prop := 0 ≤ j ∧ j ≤ 1000000 ∧ i.natAbs < 2 ^ 64
def CMul (i j : Int) : Prop := (-(2 ^ 64) < i ∧ i < 2 ^ 64) ∨ (-(2 ^ 64) < j ∧ j < 2 ^ 64)
theorem CMul.ok {i j : Int} (h : CMul i j) : IntMulOk i j := by
  rcases h with ⟨h1, h2⟩ | ⟨h1, h2⟩
  · exact .of_left (intBits_le_64 h1 h2)
  · exact .of_right (intBits_le_64 h1 h2)

theorem op_add : OpR X (binaryOp .Add) (rI0 fun i j => .int (i + j)) := opI0 fun _ _ _ _ _ _ _ q => add_int q
theorem op_sub : OpR X (binaryOp .Sub) (rI0 fun i j => .int (i - j)) := opI0 fun _ _ _ _ _ _ _ q => sub_int q
theorem op_mul : OpR X (binaryOp .Mult) (rI CMul fun i j => .int (i * j)) := opI fun _ _ _ _ _ _ _ hc q => mul_int q hc.ok
/-- // by a positive divisor -/
theorem op_fdiv : OpR X (binaryOp .FloorDiv) (rI CDiv fun i j => .int (i / j)) := opI fun i j _ _ _ _ _ hc q => by
  have h1 : (0 : Int) < j := hc.1
  have h2 : j < 1073741824 := hc.2
  exact floordiv_int (by omega) (by rw [Int.fdiv_eq_ediv_of_nonneg i (by omega)]; exact q) (.inl (PyProof.noPylong_small (by omega)))
theorem op_fdivN : OpR X (binaryOp .FloorDiv) (rI CDivN fun i j => .int (i.fdiv j)) := opI fun _ _ _ _ _ _ _ hc q => floordiv_int hc.1 q (.inl (PyProof.noPylong_small hc.2))
/-- % by a positive divisor of any size -/
theorem op_mod : OpR X (binaryOp .Mod) (rI (fun _ j => 0 < j) fun i j => .int (i % j)) := opI fun i j _ _ _ _ _ hc q => by
  have h1 : (0 : Int) < j := hc
  exact mod_int' (by omega) (by rw [Int.fmod_eq_emod_of_nonneg i (by omega)]; exact q)
theorem op_pow : OpR X (binaryOp .Pow) (rI CPow fun i j => .int (i ^ j.toNat)) := opI fun _ _ _ _ _ _ _ hc q => pow_int_small hc.1 hc.2.1 hc.2.2 q


theorem unI {f : Value → Sem Value} {g : Int → Int}
    (rule : ∀ (i : Int) (t : Tok) (s : Shared) (Q : Value → Shared → Prop) (E : Value → Shared → Prop), Q (.int (g i) s.toks) { s with toks := s.toks + 1 } → wpAny (model X.prog X.w) X.A (f (.int i t)) Q E s) :
    UnR X f (rU fun i => .int (g i)) := by
  intro pins s σ H x v Q I rx h
  obtain ⟨i, rfl, q⟩ := h
  obtain ⟨t, rfl⟩ := rx
  exact rule i t s _ _ ⟨.int (g i), H, I.tok _, ⟨_, rfl⟩, q⟩
theorem un_neg : UnR X (unaryOp .USub) (rU fun i => .int (-i)) := unI fun _ _ _ _ _ q => neg_int q

/-! ### bools among ints: n += (a < b) -/
end

/-! ### comparisons -/


section
variable {X : Cx} {a b c : Expr} {ta tb tc : TE} {pos : Pos}

theorem op_lt : OpR X (compareOp .Lt) (rI0 fun i j => .bl (decide (i < j))) := opB0 fun _ _ _ _ _ _ _ q => lt_int q
theorem op_gt : OpR X (compareOp .Gt) (rI0 fun i j => .bl (decide (j < i))) := opB0 fun _ _ _ _ _ _ _ q => gt_int q



/-- two rules for one operation: by cases -/
theorem OpR.or {f : Value → Value → Sem Value} {r r' : R2} (h : OpR X f r) (h' : OpR X f r') : OpR X f (fun x y H Q => r x y H Q ∨ r' x y H Q) := by
  intro pins s σ H x y v u Q I rx ry q
  rcases q with q | q
  · exact h pins s σ H x y v u Q I rx ry q
  · exact h' pins s σ H x y v u Q I rx ry q

theorem nomark (b : Expr) {op : CmpOp} (h : op ≠ .In := by decide) (h2 : op ≠ .NotIn := by decide) : behindInMarks op b = false := by
  have e1 : (op == CmpOp.In) = false := by cases op <;> first | rfl | exact absurd rfl h
  have e2 : (op == CmpOp.NotIn) = false := by cases op <;> first | rfl | exact absurd rfl h2
  cases b <;> simp [behindInMarks, e1, e2]
/-- a comparison as a value; hm: nomark b, or (for in, not in) by with_unfolding_all rfl -/
theorem pe_cmpR {op : CmpOp} {r : R2} (ho : OpR X (compareOp op) r) (ha : PE X a ta) (hb : PE X b tb) (hm : behindInMarks op b = false) : PE X (.Compare a [op] [b] pos) (tOp r ta tb) := by
  intro pins s σ H Q I h
  exact wpAny_Compare1 (binT ha hb I h fun v u s2 x y H2 I2 rx ry q => ho pins s2 σ H2 x y v u Q I2 rx ry q) hm
/-- a reading of a value as a test -/
def tTest (t : TE) : TT := fun σ H Q => t σ H fun x H' => ∃ k, x = .bl k ∧ Q k H'
theorem pt_cmpR {op : CmpOp} {r : R2} (ho : OpR X (compareOp op) r) (ha : PE X a ta) (hb : PE X b tb) (hm : behindInMarks op b = false) : PT X (.Compare a [op] [b] pos) (tTest (tOp r ta tb)) := by
  intro pins s σ H Q I h
  refine wpAny_isTrue_Compare1 (thn (ha pins s σ H _ I h) fun v s1 ⟨x, H1, I1, r1, q1⟩ => thn (hb pins s1 σ H1 _ I1 q1) fun u s2 ⟨y, H2, I2, r2, q2⟩ =>
    thn (ho pins s2 σ H2 x y v u _ I2 r1 r2 q2) fun c s3 ⟨z, H3, I3, r3, k, e, q3⟩ => ?_) hm
  subst e
  cases r3
  exact wpAny_truthy_bool ⟨H3, I3, q3⟩

/-! ### truth -/
/-- a value's truth by the abstract heap -/
def TruV (K : PySem.W.Frag) (x : V) (H : Hp) (k : Bool) : Prop :=
  match x with
  | .non => k = false
  | .bl b => k = b
  | .int i => k = (i != 0)
  | .str y => y.length ≤ sizeLine ∧ k = ((y.length : Int) != 0)
  | .byt y => y.size ≤ sizeLine ∧ k = ((y.size : Int) != 0)
  | .ref p => (∃ xs, SqL K H p xs ∧ k = !xs.isEmpty) ∨ (∃ xs, SqT K H p xs ∧ k = !xs.isEmpty) ∨ ∃ kvs, H p = some (.dK kvs) ∧ k = !kvs.isEmpty
  | _ => False
theorem isEmpty_kv {κ : Type} {kvs : List (κ × V)} {vs : List (κ × Value)} (r : KV kvs vs) : (!vs.isEmpty) = !kvs.isEmpty := by
  cases r <;> rfl
theorem isEmpty_of {xs : List V} {its : List Value} (r : Vals xs its) : (!its.toArray.isEmpty) = !xs.isEmpty := by
  cases r <;> simp
theorem line63 : (sizeLine : Nat) < 2 ^ 63 := by rw [sizeLine_eq]; decide
theorem tru_ok : TruR X (fun x H Q => ∃ k, TruV X.K x H k ∧ Q k H) := by
  intro pins s σ H x v Q I rx h
  obtain ⟨k, e, q⟩ := h
  have hl := line63
  have hs : sizeLine = 16777216 := sizeLine_eq
  cases x with
  | non =>
    cases rx
    have e' : k = false := e
    subst e'
    exact truthy_none ⟨H, I, q⟩
  | bl b =>
    cases rx
    have e' : k = b := e
    subst e'
    exact wpAny_truthy_bool ⟨H, I, q⟩
  | int i =>
    obtain ⟨t, rfl⟩ := rx
    have e' : k = (i != 0) := e
    subst e'
    exact PySem.P.truthy_int ⟨H, I, q⟩
  | str y =>
    obtain ⟨t, rfl⟩ := rx
    obtain ⟨hy, e'⟩ : y.length ≤ sizeLine ∧ k = ((y.length : Int) != 0) := e
    subst e'
    exact PySem.P.truthy_str (by omega) ⟨H, I.tok _, q⟩
  | byt y =>
    obtain ⟨t, rfl⟩ := rx
    obtain ⟨hy, e'⟩ : y.size ≤ sizeLine ∧ k = ((y.size : Int) != 0) := e
    subst e'
    exact PySem.W.truthy_bytes (by omega) ⟨H, I.tok _, q⟩
  | ref p =>
    cases rx
    have e' : (∃ xs, SqL X.K H p xs ∧ k = !xs.isEmpty) ∨ (∃ xs, SqT X.K H p xs ∧ k = !xs.isEmpty) ∨ ∃ kvs, H p = some (.dK kvs) ∧ k = !kvs.isEmpty := e
    rcases e' with ⟨xs, hx, e'⟩ | ⟨xs, hx, e'⟩ | ⟨kvs, hx, e'⟩
    · subst e'
      obtain ⟨its, r, pl, hz⟩ := I.list hx
      have hlen := r.length
      exact wpAny_truthy_list pl.isList (by simp only [List.size_toArray]; omega) ⟨H, I.tok _, by rw [isEmpty_of r]; exact q⟩
    · subst e'
      obtain ⟨its, r, pl, hz⟩ := I.tuple hx
      have hlen := r.length
      exact truthy_tuple pl (by simp only [List.size_toArray]; omega) ⟨H, I.tok _, by rw [isEmpty_of r]; exact q⟩
    · subst e'
      obtain ⟨hz, hS, vs, r, m⟩ : kvs.length ≤ sizeLine ∧ (p == sysModules) = false ∧ ∃ vs, KV kvs vs ∧ s.heap.DictOf (mixKind X.prog X.w) p vs := I.hok p _ hx
      have hlen : kvs.length = vs.length := Paired.length r
      exact wpAny_truthy_dict hS m (by omega) ⟨H, I.tok _, by rw [isEmpty_kv r]; exact q⟩
  | _ => exact (show False from e).elim
/-- any expression whose test is its value's truth (a name, a call, a subscript, a field ..: he by fun _ => rfl) -/
theorem pt_truth (ha : PE X a ta) (he : ∀ whole, isTrue a X.env whole = (do let v ← whole; standAt a.pos; holding [v] (truthy v))) :
    PT X a (fun σ H Q => ta σ H fun x H' => ∃ k, TruV X.K x H' k ∧ Q k H') := by
  intro pins s σ H Q I h
  exact isTrue_plain (thn (ha pins s σ H _ I h) fun v s1 ⟨x, H1, I1, r1, q1⟩ => tru_ok pins s1 σ H1 x v Q I1 r1 q1) (he _)

/-! ### strs and bytes -/


/-! ### scalar builtins, by CallR -/
theorem vals1 {x : V} {us : List Value} (r : Vals [x] us) : ∃ u, us = [u] ∧ RelV x u := by
  cases r with
  | cons r1 r2 => cases r2; exact ⟨_, rfl, r1⟩
theorem vals2 {x y : V} {us : List Value} (r : Vals [x, y] us) : ∃ u w', us = [u, w'] ∧ RelV x u ∧ RelV y w' := by
  cases r with
  | cons r1 r2 =>
    cases r2 with
    | cons r3 r4 => cases r4; exact ⟨_, _, rfl, r1, r3⟩
theorem call_abs : CallR X (.builtin "abs") (fun xs H Q => ∃ i, xs = [.int i] ∧ Q (.int (if i < 0 then -i else i)) H) := by
  intro pins s σ H xs us Q I r h
  obtain ⟨i, rfl, q⟩ := h
  obtain ⟨u, rfl, t, rfl⟩ := vals1 r
  exact call_abs_int fun u tk => ⟨.int (if i < 0 then -i else i), H, I.tok _, ⟨_, rfl⟩, q⟩
theorem call_max2 (hc : X.calm = true) : CallR X (.builtin "max") (fun xs H Q => ∃ i j, xs = [.int i, .int j] ∧ Q (.int (if j > i then j else i)) H) := by
  intro pins s σ H xs us Q I r h
  obtain ⟨i, j, rfl, q⟩ := h
  obtain ⟨u, w', rfl, ⟨t, rfl⟩, ⟨t', rfl⟩⟩ := vals2 r
  refine max_two_ints (I.ok.hd hc) fun h' tk k => ⟨_, H, I.kept k, ?_, q⟩
  by_cases hj : j > i
  · rw [if_pos hj, if_pos hj]; exact ⟨_, rfl⟩
  · rw [if_neg hj, if_neg hj]; exact ⟨_, rfl⟩
/-- len of a str, a bytes, a list, a tuple -/
def LenV (K : PySem.W.Frag) (x : V) (H : Hp) (n : Nat) : Prop :=
  match x with
  | .str y => y.length ≤ sizeLine ∧ n = y.length
  | .byt y => y.size ≤ sizeLine ∧ n = y.size
  | .ref p => (∃ xs, SqL K H p xs ∧ n = xs.length) ∨ ∃ xs, SqT K H p xs ∧ n = xs.length
  | _ => False
theorem call_len : CallR X (.builtin "len") (fun xs H Q => ∃ x n, xs = [x] ∧ LenV X.K x H n ∧ Q (.int n) H) := by
  intro pins s σ H xs us Q I r h
  obtain ⟨x, n, rfl, e, q⟩ := h
  obtain ⟨u, rfl, rx⟩ := vals1 r
  have hl := line63
  have hs : sizeLine = 16777216 := sizeLine_eq
  cases x with
  | str y =>
    obtain ⟨t, rfl⟩ := rx
    obtain ⟨hy, e'⟩ : y.length ≤ sizeLine ∧ n = y.length := e
    subst e'
    exact len_str (by omega) ⟨.int _, H, I.tok _, ⟨_, rfl⟩, q⟩
  | byt y =>
    obtain ⟨t, rfl⟩ := rx
    obtain ⟨hy, e'⟩ : y.size ≤ sizeLine ∧ n = y.size := e
    subst e'
    exact PySem.W.len_bytes (by omega) ⟨.int _, H, I.tok _, ⟨_, rfl⟩, q⟩
  | ref p =>
    cases rx
    have e' : (∃ xs, SqL X.K H p xs ∧ n = xs.length) ∨ ∃ xs, SqT X.K H p xs ∧ n = xs.length := e
    rcases e' with ⟨xs, hx, e'⟩ | ⟨xs, hx, e'⟩
    · subst e'
      obtain ⟨its, r', pl, hz⟩ := I.list hx
      have hlen := r'.length
      exact Calls.call_len_list pl.isList (by simp only [List.size_toArray]; omega) ⟨.int xs.length, H, I.tok _, ⟨_, by simp only [List.size_toArray]; rw [hlen]⟩, q⟩
    · subst e'
      obtain ⟨its, r', pl, hz⟩ := I.tuple hx
      have hlen := r'.length
      exact len_tuple pl (by simp only [List.size_toArray]; omega) ⟨.int xs.length, H, I.tok _, ⟨_, by simp only [List.size_toArray]; rw [hlen]⟩, q⟩
  | _ => exact (show False from e).elim
end
end L2

namespace L2
open PySem PySem.Spec PyProof.Rows

/-! ### an instance, its attributes a map -/
structure ObjM (h : Heap) (x dx C : Addr) (mA : Str → Option Value) : Prop where
  obj : h.get? x = some (PySem.W.instObj C dx)
  ns : h.Ns1 dx mA
  ne : dx ≠ x

theorem lookIn_ns {h : Heap} {dx : Addr} {mA : Str → Option Value} (n : h.Ns1 dx mA) : ∃ od, h.get? dx = some od ∧ ∀ name, PySem.W.lookIn name od = some (mA name) := by
  obtain ⟨o, es, ep, ho, hd, hk, _, hm⟩ := n
  refine ⟨o, ho, fun name => ?_⟩
  have e := hm name
  unfold nsFind findBy at e
  rw [← Array.find?_toList] at e
  unfold PySem.W.lookIn
  rw [hd]
  dsimp only
  split
  · rename_i y q
    rw [q] at e
    exact congrArg some e
  · rename_i q
    rw [q] at e
    have a : es.toList.any (·.refKey) = false := by
      rw [List.any_eq_false]
      intro y hy
      obtain ⟨z, t, hkey⟩ := hk y (Array.mem_toList_iff.mp hy)
      simp [DictEntry.refKey, hkey]
    have a' : ¬ es.toList.any (·.refKey) = true := by rw [a]; exact Bool.false_ne_true
    rw [if_neg a']
    exact congrArg some e

theorem ObjM.look {h : Heap} {x dx C : Addr} {mA : Str → Option Value} (I : ObjM h x dx C mA) : ∃ od, PySem.W.InstAt h x (PySem.W.instObj C dx) C (some od) ∧ ∀ name, PySem.W.lookIn name od = some (mA name) :=
  let ⟨od, ho, hl⟩ := lookIn_ns I.ns
  ⟨od, ⟨I.obj, rfl, rfl, ho⟩, hl⟩

section
variable {prog : Program} {w : World} {A : Around} {E : Value → Shared → Prop} {s : Shared} {K : PySem.W.Frag} {x dx C f : Addr} {mA : Str → Option Value} {name : Str} {v : Value}





end

/-! ### the attributes as a list of pairs -/

theorem RelO.none_of {o : Option Value} (r : RelO none o) : o = none := by
  cases o with
  | none => rfl
  | some u => exact (show False from r).elim

section
variable {P : Program} {w : World} {H H' : Hp} {h h' : Heap} {a C dx : Addr} {fs fs' : List (Str × V)}
end

/-! ### what of the text a class must have -/
structure Cls (K : PySem.W.Frag) (C : Addr) : Prop where
  pg : PySem.W.plainGet K C Str.empty = true
  hd : PySem.W.hasDictIn K C = true
  po : PySem.W.plainOver K C = true
  sa : PySem.W.findIn K (.ref C) "__setattr__" = some (some (.builtin "object.__setattr__"))
theorem Cls.get {K : PySem.W.Frag} {C : Addr} (c : Cls K C) (f : Str) : PySem.W.plainGet K C f = true := c.pg
/-- a constant of the class -/
structure Con (K : PySem.W.Frag) (C : Addr) (f : Str) (v : V) (u : Value) : Prop where
  at_ : PySem.W.findIn K (.ref C) f = some (some u)
  rel : RelV v u
  get : PySem.W.specialIn K u "__get__" = some none
  cp : PySem.W.copiedNames.contains f = false
/-- a method: a plain def of the class or of one above it -/
structure Meth (K : PySem.W.Frag) (C : Addr) (m : Str) (f : Addr) : Prop where
  at_ : PySem.W.findIn K (.ref C) m = some (some (.ref f))
  fn : PySem.W.isFn K (.ref f) = true
  kp : PySem.W.keepIn K (.ref f) = true

section
variable {X : Cx} {pins : List (Addr × Obj)} {σ : St} {H : Hp} {s : Shared} {a C dx : Addr} {fs : List (Str × V)} {f : Str} {v : V} {A : Around} {E : Value → Shared → Prop}





/-- a new instance, tracked, without attributes -/
theorem Inv.made (I : Inv X pins σ H s) : Inv X pins σ (upd (upd H s.heap.objs.size (.own (s.heap.objs.size + 1))) (s.heap.objs.size + 1) (.ins C s.heap.objs.size []))
    { s with heap := (s.heap.push PySem.W.emptyDict).push (PySem.W.instObj C s.heap.objs.size) } := by
  have e1 : (s.heap.push PySem.W.emptyDict).get? s.heap.objs.size = some PySem.W.emptyDict := Heap.get?_push_size s.heap rfl
  have e2 : ((s.heap.push PySem.W.emptyDict).push (PySem.W.instObj C s.heap.objs.size)).get? (s.heap.objs.size + 1) = some (PySem.W.instObj C s.heap.objs.size) := by
    have := Heap.get?_push_size (s.heap.push PySem.W.emptyDict) (o := PySem.W.instObj C s.heap.objs.size) rfl
    rwa [Heap.size_push] at this
  have e3 : (s.heap.push PySem.W.emptyDict).Ns s.heap.objs.size (fun _ => none) := ⟨PySem.W.emptyDict, #[], _, e1, rfl, (fun e he => absurd he (by simp)), fun _ => rfl⟩
  have I1 := I.laid (a := s.heap.objs.size) (o := .own (s.heap.objs.size + 1)) (h' := s.heap.push PySem.W.emptyDict) (t' := s.toks) (fun b u q => Heap.get?_push_of_some _ q) (Nat.le_refl _) ⟨_, e1⟩
  refine I1.laid (a := s.heap.objs.size + 1) (o := .ins C s.heap.objs.size []) (t' := s.toks) (fun b u q => Heap.get?_push_of_some _ q) (Nat.le_of_eq (Heap.size_push _ _)) ?_
  have ne : s.heap.objs.size ≠ s.heap.objs.size + 1 := Nat.ne_of_lt (Nat.lt_succ_self _)
  refine ⟨by rw [upd_ne ne, upd_same], Nat.zero_le _, ne, e2, fun _ => none, (Heap.Ns1.of_empty e3).at fun o q => Heap.get?_push_of_some _ q, fun _ => True.intro, fun y hy => absurd rfl hy⟩

end

/-! ### readings and rules -/

section
variable {X : Cx} {o e value : Expr} {f : Str} {pos pos' tpos : Pos} {ta tv : TE}

end

/-! ### isinstance -/
section
variable {X : Cx} {pins : List (Addr × Obj)} {σ : St} {H : Hp} {s : Shared} {A : Around} {E : Value → Shared → Prop} {Q : Value → Shared → Prop} {c : Value} {b : Bool}
/-- the type of a value, as the fragment's deciders take it; for an instance its class -/
inductive TyOf (K : PySem.W.Frag) (H : Hp) : V → Value → Prop where
  | non : TyOf K H .non (.type "NoneType")
  | bl (x : Bool) : TyOf K H (.bl x) (.type "bool")
  | int (i : Int) : TyOf K H (.int i) (.type "int")
  | str (x : Str) : TyOf K H (.str x) (.type "str")
  | flt (x : UInt64) : TyOf K H (.flt x) (.type "float")
  | lst {a : Addr} {xs : List V} (e : H a = some (.lst xs)) : TyOf K H (.ref a) (.type "list")
  | frz {a : Addr} {o : Obj} {xs : List V} (e : H a = some (.frz o (.lst xs))) : TyOf K H (.ref a) (.type "list")
  | tup {a : Addr} {xs : List V} (e : H a = some (.tup xs)) : TyOf K H (.ref a) (.type "tuple")
  | dK {a : Addr} {kvs : List (Key × V)} (e : H a = some (.dK kvs)) : TyOf K H (.ref a) (.type "dict")
  | dT {a : Addr} {kvs : List (List Key × V)} (e : H a = some (.dT kvs)) : TyOf K H (.ref a) (.type "dict")
  | ins {a C dx : Addr} {fs : List (Str × V)} (e : H a = some (.ins C dx fs)) (cl : Cls K C) (ha : PySem.W.findIn K (.ref C) "__class__" = some (some (.builtin "object.__class__")))
      (hn : PySem.W.specialIn K (.builtin "object.__class__") "__get__" = some (some (.builtin "getset_descriptor.__get__"))) (htk : PySem.W.takesIn K (.builtin "object.__class__") = some true)
      (hm : PySem.W.mroIn K C (.type "object") = some true) : TyOf K H (.ref a) (.ref C)
end
end L2

namespace L2
open PySem PySem.Spec PyProof.Rows

/-! ### room -/
structure Room (k : Nat) (A : Around) : Prop where
  hd : A.handled = none
  dp : A.depth + 3 * k + 5 < recursionLimit
  un : A.units + 16 * k + 200 < cLine
theorem Room.mono {j k : Nat} {A : Around} (r : Room k A) (h : j ≤ k) : Room j A := ⟨r.hd, by have := r.dp; omega, by have := r.un; omega⟩
theorem Room.deeper {k : Nat} {A : Around} (r : Room (k + 1) A) (env : Env) : Room k (A.deeper env) :=
  ⟨r.hd, by have := r.dp; show A.depth + 1 + 3 * k + 5 < _; omega, by have := r.un; show A.units + 3 + 16 * k + 200 < _; omega⟩
theorem Room.in1 {k : Nat} {A : Around} (r : Room (k + 1) A) : Room k A.in1 :=
  ⟨r.hd, by have := r.dp; show A.depth + 3 * k + 5 < _; omega, by have := r.un; show A.units + 1 + 16 * k + 200 < _; omega⟩
theorem Room.depth {k : Nat} {A : Around} (r : Room k A) : A.depth < recursionLimit := by have := r.dp; omega
theorem Room.units {k : Nat} {A : Around} (r : Room k A) : A.units + 64 < cLine := by have := r.un; omega

/-! ### argument lists and displays -/
def tNil : TA := fun _ H Q => Q [] H
def tCons (ta : TE) (tr : TA) : TA := fun σ H Q => ta σ H fun x H1 => tr σ H1 fun xs H2 => Q (x :: xs) H2
section
variable {X : Cx} {e : Expr} {es : List Expr} {te : TE} {t : TA} {pos : Pos}
theorem pa_nil : PA X [] tNil := fun _ _ _ _ H Q I h => Calls.spliced_nil ⟨[], H, I, .nil, h⟩
theorem pa_cons (ha : PE X e te) (hr : PA X es t) (hs : starEach (e :: es) X.env = (false, eval e X.env) :: starEach es X.env := by rfl) : PA X (e :: es) (tCons te t) := by
  intro pos pins s σ H Q I h
  rw [hs]
  show wpAny _ _ (spliced ((false, eval e X.env) :: backTo pos (starEach es X.env))) _ _ s
  refine Calls.spliced_cons (thn (ha pins s σ H _ I h) fun u s1 ⟨x, H1, I1, r1, q1⟩ => ?_)
  exact thn (hr pos pins s1 σ H1 _ I1 q1) fun us s2 ⟨xs, H2, I2, r2, q2⟩ => ⟨x :: xs, H2, I2, .cons r1 r2, q2⟩

def tLst (t : TA) : TE := fun σ H Q => t σ H fun xs H1 => xs.length ≤ sizeLine ∧ ∀ p, H1 p = none → Q (.ref p) (upd H1 p (.lst xs))
theorem pe_lst (h : PA X es t) : PE X (.List es pos) (tLst t) := by
  intro pins s σ H Q I hq
  refine wpAny_List_spliced (thn (h pos pins s σ H _ I hq) fun us s1 ⟨xs, H1, I1, r, z, q⟩ => ⟨by rw [← r.length]; exact z, ?_⟩)
  have hf : H1 s1.heap.objs.size = none := I1.hok.fresh (Nat.le_refl _)
  refine ⟨.ref s1.heap.objs.size, upd H1 s1.heap.objs.size (.lst xs), I1.laid (t' := s1.toks) (fun b u e => Heap.get?_push_of_some _ e) (Nat.le_refl _) ?_, rfl, q _ hf⟩
  exact ⟨z, us, 0, r, Heap.get?_push_size _ rfl⟩
end

/-! ### what a def promises -/
/-- a def's promise: the bound arguments in the parameters' order, the heap, the wanted end, the wanted exception -/
abbrev Sp := List V → Hp → VK → XK → Prop
/-- how an exception lies behind a call (file 08 gives it): the callers' frames, abstract heap and state ahead of the call, the wish, the exception, the state -/
abbrev CXT := List Env → Hp → Shared → XK → Value → Shared → Prop

/-- the state at a call -/
structure Env0 (P : Program) (w : World) (K : PySem.W.Frag) (mg : Str → Option Value) (base : Heap) (A : Around) (outer : List Env) (s : Shared) (H : Hp) : Prop where
  frames : A.frames = some outer
  mod : Mod K mg base
  bs : ∀ b o, base.get? b = some o → s.heap.get? b = some o ∧ H b = none
  bsz : base.objs.size ≤ s.heap.objs.size
  funs : s.heap.FunFrames base outer
  frf : ∀ b ∈ frs outer, H b = none
  hok : HOk P w H s.heap
  bare : AllBare s.gens
/-- a call's end -/
def CE (outer : List Env) (P : Program) (w : World) (H : Hp) (s : Shared) (Q : VK) (u : Value) (s' : Shared) : Prop :=
  ∃ v H', s'.os = s.os ∧ AllBare s'.gens ∧ Un (frs outer) [] H H' s.heap s'.heap ∧ HOk P w H' s'.heap ∧ RelV v u ∧ Q v H'
def CR (CX : CXT) (outer : List Env) (P : Program) (w : World) (H : Hp) (s : Shared) (Q : VK) (E : XK) (r : Result) (s' : Shared) : Prop :=
  match r with
  | .ok (.ret u) => CE outer P w H s Q u s'
  | .ok _ => False
  | .error e => CX outer H s E e s'
structure FnOk (P : Program) (w : World) (K : PySem.W.Frag) (mg : Str → Option Value) (base : Heap) (CX : CXT) (k : Nat) (f : Addr) (fd : FuncData) (ps : List Str) (sp : Sp) : Prop where
  len : ∀ vs H Q E, sp vs H Q E → vs.length = ps.length
  run : ∀ (A : Around) (outer : List Env) (s : Shared) (H : Hp) (args : Args) (us : List Value) (vs : List V) (Q : VK) (E : XK), Room k A → Env0 P w K mg base A outer s H → BindsTo s fd args (ps.zip us) → Vals vs us → sp vs H Q E →
    codeAny (model P w) A (.call (.ref f) args) (CR CX outer P w H s Q E) s
theorem FnOk.mono {P : Program} {w : World} {K : PySem.W.Frag} {mg : Str → Option Value} {base : Heap} {CX : CXT} {j k : Nat} {f : Addr} {fd : FuncData} {ps : List Str} {sp : Sp} (F : FnOk P w K mg base CX j f fd ps sp) (h : j ≤ k) :
    FnOk P w K mg base CX k f fd ps sp := ⟨F.len, fun A outer s H args us vs Q E hr => F.run A outer s H args us vs Q E (hr.mono h)⟩
/-- a weaker promise -/
theorem FnOk.imp {P : Program} {w : World} {K : PySem.W.Frag} {mg : Str → Option Value} {base : Heap} {CX : CXT} {k : Nat} {f : Addr} {fd : FuncData} {ps : List Str} {sp sp' : Sp} (F : FnOk P w K mg base CX k f fd ps sp)
    (h : ∀ vs H Q E, sp' vs H Q E → sp vs H Q E) : FnOk P w K mg base CX k f fd ps sp' :=
  ⟨fun vs H Q E q => F.len vs H Q E (h _ _ _ _ q), fun A outer s H args us vs Q E hr he hb hv hs => F.run A outer s H args us vs Q E hr he hb hv (h _ _ _ _ hs)⟩

theorem Env0.in1 {P : Program} {w : World} {K : PySem.W.Frag} {mg : Str → Option Value} {base : Heap} {A : Around} {outer : List Env} {s : Shared} {H : Hp} (e : Env0 P w K mg base A outer s H) :
    Env0 P w K mg base A.in1 outer s H := ⟨e.frames, e.mod, e.bs, e.bsz, e.funs, e.frf, e.hok, e.bare⟩

section
variable {X : Cx} {pins : List (Addr × Obj)} {σ : St} {H : Hp} {s s' : Shared}
/-- from a body: what a callee wants -/
theorem Inv.env0 (I : Inv X pins σ H s) : Env0 X.prog X.w X.K X.mg X.base X.A X.stack s H :=
  ⟨I.ok.frames, I.ok.mod, I.bs, Nat.le_trans I.ok.bsz I.sz, I.stack, I.stkFree, I.hok, I.bare⟩
/-- behind a call -/
theorem Inv.after {Q : VK} {u : Value} (I : Inv X pins σ H s) (h : CE X.stack X.prog X.w H s Q u s') : EP X pins σ Q u s' := by
  obtain ⟨v, H', os, bare, un, hok, r, q⟩ := h
  obtain ⟨hh, g, d, t, os'⟩ := s'
  obtain rfl : os' = s.os := os
  exact ⟨v, H', I.call (h' := hh) (g' := g) (d' := d) (t' := t) (ch := []) un hok bare (fun b z => absurd z (by simp)), r, q⟩
end

/-! ### calls -/
/-- f(..): the written arguments, then the defaults dvs; E: what is wanted of an exception -/
def tCall (sp : Sp) (dvs : List V) (E : XK) (t : TA) : TE := fun σ H Q => t σ H fun vs H1 => sp (vs ++ dvs) H1 Q E

/-- how the parameters are bound: us the positional arguments, kw the keywords' values by name, ds the defaults that fill up -/
def Binds (K : PySem.W.Frag) (fd : FuncData) (ps : List Str) (ds : List Value) : Prop :=
  ∀ (s : Shared) (us : List Value), K.In s.heap → (us ++ ds).length = ps.length → BindsTo s fd ⟨us, []⟩ (ps.zip (us ++ ds))
/-- every parameter is given -/
theorem Binds.all {K : PySem.W.Frag} {fd : FuncData} {ps : List Str} (h : ∀ us : List Value, us.length = ps.length → bindArgs fd ⟨us, []⟩ = pure (ps.zip us)) : Binds K fd ps [] := fun s us _ hl => by
  rw [List.append_nil] at hl ⊢
  exact .of_eq (h us hl)

/-- an exception of a callee reaches what this body wants of exceptions -/
def Passes (CX : CXT) (X : Cx) (E : XK) : Prop := ∀ (pins : List (Addr × Obj)) (σ : St) (H : Hp) (s : Shared) (e : Value) (s' : Shared), Inv X pins σ H s → CX X.stack H s E e s' → X.xe e s'

section
variable {X : Cx} {CX : CXT} {k : Nat} {f C : Addr} {fd : FuncData} {ps : List Str} {sp : Sp} {dvs : List V} {ds : List Value} {E : XK} {x m : Str} {p pos apos : Pos} {e o : Expr} {es : List Expr} {ta : TE} {t : TA}

/-- the callee runs -/
theorem run_fn {pins : List (Addr × Obj)} {σ : St} {H : Hp} {s : Shared} {Q : VK} {us : List Value} {vs : List V} (F : FnOk X.prog X.w X.K X.mg X.base CX k f fd ps sp) (hr : Room k X.A) (hb : Binds X.K fd ps ds) (hd : Vals dvs ds) (hx : Passes CX X E)
    (I : Inv X pins σ H s) (r : Vals vs us) (h : sp (vs ++ dvs) H Q E) : wpAny (model X.prog X.w) X.A (call (.ref f) us) (EP X pins σ Q) X.xe s := by
  have r2 : Vals (vs ++ dvs) (us ++ ds) := r.append hd
  have hl : (us ++ ds).length = ps.length := by rw [← r2.length]; exact F.len _ _ _ _ h
  refine wpAny_call (codeAny_mono (F.run X.A X.stack s H ⟨us, []⟩ (us ++ ds) (vs ++ dvs) Q E hr I.env0 (hb s us I.kIn hl) r2 h) fun r s' hq => ?_)
  cases r with
  | error e => exact hx pins σ H s e s' I hq
  | ok fl =>
    cases fl with
    | ret u => exact I.after hq
    | next => exact False.elim hq
    | brk => exact False.elim hq
    | cont => exact False.elim hq

theorem pe_call (F : FnOk X.prog X.w X.K X.mg X.base CX k f fd ps sp) (hr : Room k X.A) (hg : Gl X x) (hm : X.mg x = some (.ref f)) (hk : PySem.W.keepIn X.K (.ref f) = true) (hb : Binds X.K fd ps ds) (hd : Vals dvs ds) (hx : Passes CX X E)
    (ha : PA X (e :: es) t) (hdb : (x == ("__debug__" : Str)) = false := by decide) (he : starEach (e :: es) X.env = (false, eval e X.env) :: starEach es X.env := by rfl) (hpl : (backTo pos (starEach es X.env)).any (·.1) = false := by rfl) :
    PE X (.Call (.Name x p) (e :: es) [] pos) (tCall sp dvs E t) := by
  intro pins s σ H Q I h
  refine wpAny_Call_Name_kw (ld_glob I hg hm ?_ hdb)
  refine PySem.W.callWith_K (h₀ := X.base) I.ok.mod.kin hk (thn (ha pos pins s σ H _ I h) fun us s1 ⟨vs, H1, I1, r, q⟩ => ⟨I1.kIn, ?_⟩) he hpl
  exact run_fn F hr hb hd hx I1 r q


/-- what a class must have to be made -/
structure Mk (K : PySem.W.Frag) (C f : Addr) : Prop where
  makes : PySem.W.makesIn K C = true
  init : PySem.W.findIn K (.ref C) "__init__" = some (some (.ref f))
  fn : PySem.W.isFn K (.ref f) = true
  kp : PySem.W.keepIn K (.ref C) = true

end

/-! ### keywords -/
section
variable {X : Cx} {CX : CXT} {k : Nat} {f C : Addr} {fd : FuncData} {ps ks : List Str} {sp : Sp} {E : XK} {x m : Str} {p pos apos kpos : Pos} {e o : Expr} {es : List Expr} {kws : List Keyword} {te ta : TE} {t tk : TA} {nm : Option Str}

/-- how a call with keywords binds: g puts the positional values us and the keywords' values ws (names ks) in the parameters' order, defaults among them -/
structure KBinds (K : PySem.W.Frag) (fd : FuncData) (ps ks : List Str) (g : List Value → List Value → List Value) (gV : List V → List V → List V) : Prop where
  to : ∀ (s : Shared) (us ws : List Value), K.In s.heap → (g us ws).length = ps.length → BindsTo s fd ⟨us, ks.zip ws⟩ (ps.zip (g us ws))
  rel : ∀ {vs : List V} {us : List Value} {zs : List V} {ws : List Value}, Vals vs us → Vals zs ws → Vals (gV vs zs) (g us ws)
variable {g : List Value → List Value → List Value} {gV : List V → List V → List V}
end

/-! ### a def's body keeps its promise -/
/-- names: the parameters first -/
structure FnScope (N P : List Str) (sc : Scope) : Prop where
  kind : sc.kind = .function
  co : sc.isCoroutine = false
  gen : sc.isGenerator = false
  nd : N.Nodup
  pre : N.take P.length = P
  par : ∀ x ∈ P, sc.names.lookup x = some .local ∨ sc.names.lookup x = some .cell
  nofree : ∀ y ∈ sc.names, y.2 ≠ .free

theorem bindL_out {kindOf : Str → Option NameKind} {x : Str} : ∀ {binds : List (Str × Value)} {m : Str → Option Value}, (∀ v, (x, v) ∉ binds) → bindL kindOf binds m x = m x
  | [], _, _ => rfl
  | (n, v) :: r, m, h => by
    unfold bindL
    rw [bindL_out fun w hw => h w (List.mem_cons_of_mem _ hw)]
    split
    · have : x ≠ n := by rintro rfl; exact h v List.mem_cons_self
      simp [this]
    · rfl
theorem bindC_out {kindOf : Str → Option NameKind} {x : Str} : ∀ {binds : List (Str × Value)} {m : Str → Option Value}, (∀ v, (x, v) ∉ binds) → bindC kindOf binds m x = m x
  | [], _, _ => rfl
  | (n, v) :: r, m, h => by
    unfold bindC
    rw [bindC_out fun w hw => h w (List.mem_cons_of_mem _ hw)]
    split
    · rfl
    · have : x ≠ n := by rintro rfl; exact h v List.mem_cons_self
      simp [this]
theorem bindL_get {kindOf : Str → Option NameKind} {x : Str} {v : Value} : ∀ {P : List Str} {vs : List Value} {i : Nat} {m : Str → Option Value}, P.Nodup → P[i]? = some x → vs[i]? = some v → kindOf x = some .local →
    bindL kindOf (P.zip vs) m x = some v
  | [], _, _, _, _, h, _, _ => by simp at h
  | _ :: _, [], _, _, _, _, h, _ => by simp at h
  | p :: P, w :: vs, 0, m, nd, h1, h2, hk => by
    simp at h1 h2; subst h1; subst h2
    show bindL kindOf ((p, w) :: P.zip vs) m p = _
    unfold bindL
    rw [bindL_out fun v hv => (List.nodup_cons.mp nd).1 (List.of_mem_zip hv).1, if_pos hk]
    simp
  | p :: P, w :: vs, i + 1, m, nd, h1, h2, hk => by
    show bindL kindOf ((p, w) :: P.zip vs) m x = _
    unfold bindL
    exact bindL_get (i := i) (List.nodup_cons.mp nd).2 (by simpa using h1) (by simpa using h2) hk
theorem bindC_get {kindOf : Str → Option NameKind} {x : Str} {v : Value} : ∀ {P : List Str} {vs : List Value} {i : Nat} {m : Str → Option Value}, P.Nodup → P[i]? = some x → vs[i]? = some v → kindOf x ≠ some .local →
    bindC kindOf (P.zip vs) m x = some v
  | [], _, _, _, _, h, _, _ => by simp at h
  | _ :: _, [], _, _, _, _, h, _ => by simp at h
  | p :: P, w :: vs, 0, m, nd, h1, h2, hk => by
    simp at h1 h2; subst h1; subst h2
    show bindC kindOf ((p, w) :: P.zip vs) m p = _
    unfold bindC
    rw [bindC_out fun v hv => (List.nodup_cons.mp nd).1 (List.of_mem_zip hv).1, if_neg hk]
    simp
  | p :: P, w :: vs, i + 1, m, nd, h1, h2, hk => by
    show bindC kindOf ((p, w) :: P.zip vs) m x = _
    unfold bindC
    exact bindC_get (i := i) (List.nodup_cons.mp nd).2 (by simpa using h1) (by simpa using h2) hk

/-- the names' values at the entry -/
def start (N : List Str) (vs : List V) : St := vs.map some ++ List.replicate (N.length - vs.length) none

/-- the context of a def's body, at its entry; an exception leaves the frame, then lies as CX says -/
def cxOf (CX : CXT) (P : Program) (w : World) (K : PySem.W.Frag) (mg : Str → Option Value) (base : Heap) (N : List Str) (qual : Str) (scope : Scope) (f : Addr) (cd : Value) (A : Around) (outer : List Env) (s : Shared) (H : Hp) (E : XK) : Cx where
  prog := P
  w := w
  K := K
  mg := mg
  base := base
  A := A.deeper (envOfC qual scope s.heap.objs.size f cd)
  N := N
  s₀ := s
  H₀ := H
  env := envOfC qual scope s.heap.objs.size f cd
  outer := outer
  stack := envOfC qual scope s.heap.objs.size f cd :: outer
  ex := []
  calm := true
  fn := fun _ => true
  pn := []
  xe := fun e s' => wpAny (model P w) (A.deeper (envOfC qual scope s.heap.objs.size f cd)) (leaving (envOfC qual scope s.heap.objs.size f cd) e) (fun _ s'' => CX outer H s E e s'') (fun e' s'' => CX outer H s E e' s'') s'

theorem cell_has {sc : Scope} {n : Nat} {x : Str} (h : sc.names.lookup x = some .cell) : ∃ c, (cellsFrom n sc.names []).lookup x = some c := by
  have q := PySem.W.cellsFrom_some sc.names n [] (.inl h)
  exact Option.isSome_iff_exists.mp q

theorem inv_start {CX : CXT} {P : Program} {w : World} {K : PySem.W.Frag} {mg : Str → Option Value} {base : Heap} {N ps : List Str} {qual : Str} {scope : Scope} {f : Addr} {cd : Value} {A : Around} {outer : List Env} {s s1 : Shared} {H : Hp} {E : XK} {us : List Value} {vs : List V}
    (S : FnScope N ps scope) (hd : A.handled = none) (e0 : Env0 P w K mg base A outer s H) (hl : vs.length = ps.length) (r : Vals vs us)
    (x : InCallC s s.heap.objs.size (bindL (envOfC qual scope s.heap.objs.size f cd).kindOf (ps.zip us) fun _ => none) (cellsFrom (s.heap.objs.size + 1) scope.names []) (bindC (envOfC qual scope s.heap.objs.size f cd).kindOf (ps.zip us) fun _ => none) s1) :
    Inv (cxOf CX P w K mg base N qual scope f cd A outer s H E) [] (start N vs) H s1 := by
  have hpl : ps.length ≤ N.length := by have := congrArg List.length S.pre; rw [List.length_take] at this; omega
  obtain ⟨h1, tk, rfl, hk⟩ := x.done
  have noA : ∀ b : Addr, b ∉ (cxOf CX P w K mg base N qual scope f cd A outer s H E).ex := fun b z => absurd (show b ∈ ([] : List Addr) from z) (by simp)
  refine ⟨⟨e0.mod, S.kind, rfl, rfl, Nat.le_refl _, fun y z c h1 h2 => ?_, fun y hy => ?_, fun y c _ h => ?_, fun _ => hd, Around.frames_deeper e0.frames, .inr ⟨rfl, rfl⟩, fun b z => absurd z (noA b), e0.bs, e0.bsz, fun b _ _ => noA b, fun b z => absurd z (noA b), e0.funs, e0.frf⟩,
    rfl, e0.bare, Un.kept hk, ⟨_, x.toInCall.ns, fun i y v h1 h2 h3 => ?_⟩, fun y c h => ⟨_, x.cell y c h⟩, e0.hok.fresh (Nat.le_refl _), fun y c h => ?_, fun p hp => absurd (show p ∈ ([] : List (Addr × Obj)) from hp) (by simp), e0.hok.kept hk, ?_⟩
  · exact name_of_addr x.apart (PySem.mem_of_lookup h1) (PySem.mem_of_lookup h2)
  · have hy : scope.names.lookup y = some .cell ∨ scope.names.lookup y = some .free := hy
    rcases hy with hy | hy
    · exact cell_has hy
    · exact absurd rfl (S.nofree _ (PySem.mem_of_lookup hy))
  · exact Nat.le_of_lt (x.above y c (PySem.mem_of_lookup h))
  · have hi : i < vs.length := by
      unfold start at h2
      by_cases hi : i < vs.length
      · exact hi
      · rw [List.getElem?_append_right (by simpa using hi)] at h2
        rw [List.getElem?_replicate] at h2
        split at h2 <;> cases h2
    have ha : vs[i]? = some v := by
      unfold start at h2
      rw [List.getElem?_append_left (by simpa using hi), List.getElem?_map] at h2
      cases e : vs[i]? with
      | none => rw [e] at h2; cases h2
      | some a => rw [e] at h2; cases h2; rfl
    obtain ⟨u, hu, rv⟩ := r.get ha
    have hp : ps[i]? = some y := by
      rw [← S.pre, List.getElem?_take_of_lt (by omega)]; exact h1
    have ndP : ps.Nodup := by rw [← S.pre]; exact S.nd.sublist (List.take_sublist _ _)
    refine ⟨u, rv, ?_⟩
    rcases S.par y (List.mem_of_getElem? hp) with k | k
    · exact .inl ⟨k, bindL_get ndP hp hu k⟩
    · obtain ⟨c, e⟩ := cell_has (n := s.heap.objs.size + 1) k
      refine .inr ⟨.inl k, c, e, ?_⟩
      have q := x.cell y c e
      rw [bindC_get ndP hp hu (by show scope.names.lookup y ≠ _; rw [k]; decide)] at q
      exact q
  · exact e0.hok.fresh (Nat.le_of_lt (x.above y c (PySem.mem_of_lookup h)))
  · unfold start
    show _ = N.length
    rw [List.length_append, List.length_map, List.length_replicate]
    omega

/-- THE RULE: a def (or a method) of the text, by its body. The body's reading t is chosen for each entry; it is run at the parameters' values -/
theorem fn_of {CX : CXT} {P : Program} {w : World} {K : PySem.W.Frag} {mg : Str → Option Value} {base : Heap} {k : Nat} {f : Addr} {name qual : Str} {params : Arguments} {body : List Stmt} {scope : Scope} {dV kV doc pm cdv ct oc : Value} {an od : Option Addr}
    {osl : Array (Option Value)} {N ps : List Str} {sp : Sp} (lk : K.lookup f = some ⟨oc, od, .func (PySem.W.fnOf name qual params body scope dV kV doc pm an cdv ct), osl⟩) (hcd : PySem.W.codeIn K cdv qual = true) (S : FnScope N ps scope)
    (len : ∀ vs H Q E, sp vs H Q E → vs.length = ps.length)
    (hbody : ∀ (A : Around) (outer : List Env) (s : Shared) (H : Hp) (vs : List V) (Q : VK) (E : XK), Room k (A.deeper (envOfC qual scope s.heap.objs.size f cdv)) → sp vs H Q E →
      ∃ t, PSs (cxOf CX P w K mg base N qual scope f cdv A outer s H E) body t ∧ t { nx := fun _ H' => Q .non H', rt := Q } (start N vs) H) :
    FnOk P w K mg base CX (k + 1) f (PySem.W.fnOf name qual params body scope dV kV doc pm an cdv ct) ps sp := by
  refine ⟨len, fun A outer s H args us vs Q E hr e0 hb r hsp => ?_⟩
  have hl := len _ _ _ _ hsp
  have KX : K.In s.heap := e0.mod.kin.keeps fun b o e => (e0.bs b o e).1
  have lim : s.heap.NoLimit := e0.mod.nolimit.keeps fun b o e => (e0.bs b o e).1
  have hkind : ∀ y ∈ ps.zip us, scope.names.lookup y.1 = some .local ∨ (scope.names.lookup y.1 = some .cell ∧ ((cellsFrom (s.heap.objs.size + 1) scope.names []).lookup y.1).isSome = true) := fun ⟨n, v⟩ hy => by
    rcases S.par n (List.of_mem_zip hy).1 with q | q
    · exact .inl q
    · exact .inr ⟨q, PySem.W.cellsFrom_some _ _ _ (.inl q)⟩
  refine codeAny_call_function hr.depth (KX _ _ lk) rfl S.co S.gen rfl (PySem.W.codeRec_of KX hcd) (hb _ _ _ _ ?_)
  refine wpAny_newFunctionEnv_cells S.kind hkind fun env he s1 x => ?_
  subst he
  refine ⟨lim.keeps x.toInCall.keep, codeAny_func ?_⟩
  obtain ⟨t, ht, hq⟩ := hbody A outer s H vs Q E (hr.deeper _) hsp
  have I : Inv (cxOf CX P w K mg base N qual scope f cdv A outer s H E) [] (start N vs) H s1 := inv_start S hr.hd e0 hl r x
  refine wpAny_mono (ht [] s1 (start N vs) H _ I hq) (fun fl s' hs => ?_) fun e s' hs => hs
  have fin : ∀ {σ' : St} {H' : Hp} {v : V} {u : Value}, Inv (cxOf CX P w K mg base N qual scope f cdv A outer s H E) [] σ' H' s' → RelV v u → Q v H' → CE outer P w H s Q u s' :=
    fun {σ' H' v u} J rv q => ⟨v, H', J.os, J.bare, J.base, J.hok, rv, q⟩
  cases fl with
  | ret u =>
    obtain ⟨v, σ', H', J, rv, q⟩ := hs
    exact fin J rv q
  | next =>
    obtain ⟨σ', H', J, q⟩ := hs
    exact fin (v := V.non) (u := Value.none) J rfl q
  | brk =>
    obtain ⟨_, _, _, q⟩ := hs
    exact False.elim q
  | cont =>
    obtain ⟨_, _, _, q⟩ := hs
    exact False.elim q
end L2

namespace L2
open PySem PySem.Spec PyProof.Rows
section
variable {X : Cx} {x : Str} {p pos : Pos} {e : Expr} {es : List Expr} {t : TA} {id T : String} {r : List V → Hp → VK → Prop}

def tCB (r : List V → Hp → VK → Prop) (t : TA) : TE := fun σ H Q => t σ H fun vs H1 => r vs H1 Q
/-- f(e, ..), f a built-in function -/
theorem pe_callB (hc : CallR X (.builtin id) r) (hg : Gl X x) (hm : X.mg x = none) (hv : bootBuiltins x = some (.builtin id)) (ha : PA X (e :: es) t) (hn : x ≠ "__name__" := by decide) (hdb : (x == ("__debug__" : Str)) = false := by decide)
    (he : starEach (e :: es) X.env = (false, eval e X.env) :: starEach es X.env := by rfl) (hpl : (backTo pos (starEach es X.env)).any (·.1) = false := by rfl) : PE X (.Call (.Name x p) (e :: es) [] pos) (tCB r t) := by
  intro pins s σ H Q I h
  refine wpAny_Call_Name_kw (ld_blt I hg hm hv ?_ hn hdb)
  exact PyProof.Rows.callWith_builtin1 (thn (ha pos pins s σ H _ I h) fun us s1 ⟨vs, H1, I1, r1, q1⟩ => hc pins s1 σ H1 vs us Q I1 r1 q1) he hpl
/-- T(e, ..), T a built-in type -/
theorem pe_callTy (hc : CallR X (.type T) r) (hg : Gl X x) (hm : X.mg x = none) (hv : bootBuiltins x = some (.type T)) (ha : PA X (e :: es) t) (hn : x ≠ "__name__" := by decide) (hdb : (x == ("__debug__" : Str)) = false := by decide)
    (he : starEach (e :: es) X.env = (false, eval e X.env) :: starEach es X.env := by rfl) (hpl : (backTo pos (starEach es X.env)).any (·.1) = false := by rfl) : PE X (.Call (.Name x p) (e :: es) [] pos) (tCB r t) := by
  intro pins s σ H Q I h
  refine wpAny_Call_Name_kw (ld_blt I hg hm hv ?_ hn hdb)
  exact PyProof.Rows.callWith_type1 (thn (ha pos pins s σ H _ I h) fun us s1 ⟨vs, H1, I1, r1, q1⟩ => hc pins s1 σ H1 vs us Q I1 r1 q1) he hpl
end
end L2

namespace HT
open PySem PyProof.Rows



section
open PySem.SeqAt
open PySem.AutoSeq1 (wpAny_loadPart')
open PySem.MeetsSeq PySem.MeetsSeq2 PySem.MeetsSeq3

end

section
variable {prog : Program} {w : World} {A : Around} {E : Value → Shared → Prop} {s : Shared}



/-! ### t[a:b], not the whole -/
/-- a slice's bound as a place among n (d where it is left out) -/
def sIx (n d : Nat) : Option Int → Nat
  | none => d
  | some v => if v < 0 then (v + (n : Int)).toNat else min v.toNat n

end
end HT

namespace L2
open PySem PySem.Spec PyProof.Rows

/-! ### the parts of a slice -/
abbrev TO := St → Hp → (Option Int → Hp → Prop) → Prop
/-- a slice's part (left out, or an int) -/
def PO (X : Cx) (e : Option Expr) (t : TO) : Prop :=
  ∀ (pins : List (Addr × Obj)) (s : Shared) (σ : St) (H : Hp) (Q : Option Int → Hp → Prop), Inv X pins σ H s → t σ H Q →
    wpAny (model X.prog X.w) X.A (evalPart e X.env) (fun u s' => ∃ o H', Inv X pins σ H' s' ∧ IsPart u o ∧ Q o H') X.xe s
def tPart (t : TE) : TO := fun σ H Q => t σ H fun x H1 => ∃ i, x = .int i ∧ Q (some i) H1

theorem intsAre_of {ns : List Int} : ∀ {us : List Value}, Vals (ns.map V.int) us → IntsAre us ns := by
  induction ns with
  | nil => intro us r; rw [List.map_nil] at r; cases r; exact .nil
  | cons n ns ih =>
    intro us r
    rw [List.map_cons] at r
    cases r with
    | cons r1 r2 =>
      obtain ⟨t, e⟩ := r1
      subst e
      exact .cons n t (ih r2)

section
variable {X : Cx} {e : Expr} {te : TE} {lo hi : Option Expr} {tl th : TO} {pos p2 : Pos}

theorem po_some (h : PE X e te) : PO X (some e) (tPart te) := by
  intro pins s σ H Q I hw
  rw [evalPart_some]
  refine thn (h pins s σ H _ I hw) fun u s1 ⟨x, H1, I1, r1, q1⟩ => ?_
  obtain ⟨i, rfl, q⟩ := q1
  obtain ⟨t, rfl⟩ := r1
  exact ⟨some i, H1, I1, .int i t, q⟩

/-- what a slice of a value is, by values: the slice object stands at sl -/
def SlR (X : Cx) (r : V → Option Int → Option Int → Hp → VK → Prop) : Prop :=
  ∀ (pins : List (Addr × Obj)) (s : Shared) (σ : St) (H : Hp) (x : V) (v vl vu : Value) (lo hi : Option Int) (sl : Addr) (Q : VK), Inv X pins σ H s → RelV x v → s.heap.IsSliceOf sl vl vu .none → IsPart vl lo → IsPart vu hi → r x lo hi H Q →
    ∃ T id, typeLookup (.type T) "__getitem__" = pure (some (.builtin id)) ∧ s.TypeIs v T ∧ wpAny (model X.prog X.w) X.A (getItem v (.ref sl)) (EP X pins σ Q) X.xe s
theorem SlR.or {r r' : V → Option Int → Option Int → Hp → VK → Prop} (h : SlR X r) (h' : SlR X r') : SlR X (fun x lo hi H Q => r x lo hi H Q ∨ r' x lo hi H Q) := by
  intro pins s σ H x v vl vu lo hi sl Q I rx hs pl pu q
  rcases q with q | q
  · exact h pins s σ H x v vl vu lo hi sl Q I rx hs pl pu q
  · exact h' pins s σ H x v vl vu lo hi sl Q I rx hs pl pu q


/-! ### t < u, t + u -/
end
end L2

namespace L2
open PySem PySem.Spec PyProof.Rows

/-! ### places -/
/-- the place that an index of any sign means -/
def ixN (n : Nat) (i : Int) : Option Nat := if 0 ≤ i then (if i < n then some i.toNat else none) else if -(n : Int) ≤ i then some (i + n).toNat else none
def atI {α : Type} (xs : List α) (i : Int) : Option α := (ixN xs.length i).bind fun j => xs[j]?
theorem ixN_seq {n : Nat} {i : Int} {j : Nat} (h : ixN n i = some j) : seqIndex? i n = some j ∧ j < n ∧ -(n : Int) ≤ i ∧ i < n := by
  unfold ixN at h
  by_cases h0 : 0 ≤ i
  · rw [if_pos h0] at h
    by_cases h1 : i < n
    · rw [if_pos h1] at h
      have e : i.toNat = j := Option.some.inj h
      exact ⟨by rw [seqIndex_of h0 h1, e], by omega, by omega, h1⟩
    · rw [if_neg h1] at h; cases h
  · rw [if_neg h0] at h
    by_cases h1 : -(n : Int) ≤ i
    · rw [if_pos h1] at h
      have e : (i + n).toNat = j := Option.some.inj h
      exact ⟨by rw [seqIndex_neg (by omega) h1, e], by omega, h1, by omega⟩
    · rw [if_neg h1] at h; cases h
theorem atI_get {α : Type} {xs : List α} {i : Int} {v : α} (h : atI xs i = some v) : ∃ j, seqIndex? i xs.length = some j ∧ xs[j]? = some v ∧ j < xs.length ∧ -(xs.length : Int) ≤ i ∧ i < xs.length := by
  unfold atI at h
  cases e : ixN xs.length i with
  | none => rw [e] at h; cases h
  | some j =>
    rw [e] at h
    obtain ⟨h1, h2, h3, h4⟩ := ixN_seq e
    exact ⟨j, h1, h, h2, h3, h4⟩
theorem atI_nat {α : Type} {xs : List α} {j : Nat} {v : α} (h : xs[j]? = some v) : atI xs (j : Int) = some v := by
  have hj : j < xs.length := (List.getElem?_eq_some_iff.mp h).1
  have e : ixN xs.length (j : Int) = some j := by
    unfold ixN
    rw [if_pos (by omega), if_pos (by omega)]; simp
  unfold atI; rw [e]; exact h

/-! ### what may be subscripted -/
/-- what stands as an index of a plain subscript -/
def PlainIx (b : Expr) : Prop := ∀ o i, subscripted b false o i = operate [o, i] (getItem o i)
/-- a subscript by values -/
def IxR (X : Cx) (r : R2) : Prop :=
  ∀ (value slice : Expr) (pins : List (Addr × Obj)) (s : Shared) (σ : St) (H : Hp) (x y : V) (v u : Value) (Q : VK), Inv X pins σ H s → RelV x v → RelV y u → r x y H Q →
    subscripted slice false v u = operate [v, u] (getItem v u) → wpAny (model X.prog X.w) X.A (subscriptTail value slice v u) (EP X pins σ Q) X.xe s
/-- a call of a builtin's method by values: the receiver, the arguments -/
def MtR (X : Cx) (id : String) (r : V → List V → Hp → VK → Prop) : Prop :=
  ∀ (pins : List (Addr × Obj)) (s : Shared) (σ : St) (H : Hp) (x : V) (xs : List V) (v : Value) (us : List Value) (Q : VK), Inv X pins σ H s → RelV x v → Vals xs us → r x xs H Q →
    wpAny (model X.prog X.w) X.A (call (.builtin id) (v :: us)) (EP X pins σ Q) X.xe s
section
variable {X : Cx} {a b : Expr} {ta tb : TE} {pos : Pos}
theorem IxR.or {r r' : R2} (h : IxR X r) (h' : IxR X r') : IxR X (fun x y H Q => r x y H Q ∨ r' x y H Q) := by
  intro value slice pins s σ H x y v u Q I rx ry q hs
  rcases q with q | q
  · exact h value slice pins s σ H x y v u Q I rx ry q hs
  · exact h' value slice pins s σ H x y v u Q I rx ry q hs
theorem MtR.or {id : String} {r r' : V → List V → Hp → VK → Prop} (h : MtR X id r) (h' : MtR X id r') : MtR X id (fun x xs H Q => r x xs H Q ∨ r' x xs H Q) := by
  intro pins s σ H x xs v us Q I rx rs q
  rcases q with q | q
  · exact h pins s σ H x xs v us Q I rx rs q
  · exact h' pins s σ H x xs v us Q I rx rs q
/-- a[b] -/
theorem pe_ix {r : R2} (hr : IxR X r) (ha : PE X a ta) (hb : PE X b tb) (hs : PlainIx b) : PE X (.Subscript a b pos) (tOp r ta tb) := by
  intro pins s σ H Q I h
  exact Subscript_ (binT ha hb I h fun v u s2 x y H2 I2 rx ry q => hr a b pins s2 σ H2 x y v u Q I2 rx ry q (hs _ _))

def rIxL (K : PySem.W.Frag) : R2 := fun x y H Q => ∃ p xs i v, x = .ref p ∧ y = .int i ∧ SqL K H p xs ∧ atI xs i = some v ∧ Q v H
def rIxT (K : PySem.W.Frag) : R2 := fun x y H Q => ∃ p xs i v, x = .ref p ∧ y = .int i ∧ SqT K H p xs ∧ atI xs i = some v ∧ Q v H
def rIxS : R2 := fun x y H Q => ∃ z i c, x = .str z ∧ y = .int i ∧ z.length ≤ sizeLine ∧ atI z.cps.toList i = some c ∧ Q (.str ⟨#[c]⟩) H
theorem ix_list : IxR X (rIxL X.K) := by
  intro value slice pins s σ H x y v u Q I rx ry h hs
  obtain ⟨p, xs, i, z, rfl, rfl, hq, he, q⟩ := h
  cases rx
  obtain ⟨t, rfl⟩ := ry
  obtain ⟨its, r, pl, hz⟩ := I.list hq
  obtain ⟨j, h1, h2, h3, h4, h5⟩ := atI_get he
  obtain ⟨w, ew, rw'⟩ := r.get h2
  have hl := r.length
  have hn := line63
  have fin : EP X pins σ Q w s := ⟨z, H, I, rw', q⟩
  by_cases h0 : 0 ≤ i
  · have hj : i.toNat = j := by
      rw [seqIndex_of h0 h5] at h1
      exact Option.some.inj h1
    exact item_listR pl.isList h0 (by omega) (by rw [hj]; simpa using ew) fin hs
  · have hj : (i + (its.toArray.size : Int)).toNat = j := by
      rw [seqIndex_neg (by omega) h4] at h1
      rw [List.size_toArray, ← hl]
      exact Option.some.inj h1
    exact subscriptTail_builtinR (x := w) pl.isList.typeIs slot_list_getitem.lookup
      (wpAny_getItem_list_neg (Q := fun r s' => r = w ∧ EP X pins σ Q r s') pl.isList (by omega) (by rw [List.size_toArray] <;> omega) (by omega) (by rw [hj]; simpa using ew) ⟨rfl, fin⟩) hs
theorem ix_tup : IxR X (rIxT X.K) := by
  intro value slice pins s σ H x y v u Q I rx ry h hs
  obtain ⟨p, xs, i, z, rfl, rfl, hq, he, q⟩ := h
  cases rx
  obtain ⟨t, rfl⟩ := ry
  obtain ⟨its, r, pl, hz⟩ := I.tuple hq
  obtain ⟨j, h1, h2, h3, h4, h5⟩ := atI_get he
  obtain ⟨w, ew, rw'⟩ := r.get h2
  have hl := r.length
  have hn := line63
  have fin : EP X pins σ Q w s := ⟨z, H, I, rw', q⟩
  exact subscriptTail_builtinR (x := w) pl.typeIs slot_tuple_getitem.lookup
    (getItem_tuple (j := j) (Q := fun r s' => r = w ∧ EP X pins σ Q r s') pl (by omega) (by omega) (by rw [List.size_toArray, ← hl]; exact h1) (by simpa using ew) ⟨rfl, fin⟩) hs
theorem ix_str : IxR X rIxS := by
  intro value slice pins s σ H x y v u Q I rx ry h hs
  obtain ⟨z, i, c, rfl, rfl, hz, he, q⟩ := h
  obtain ⟨t, rfl⟩ := rx
  obtain ⟨t', rfl⟩ := ry
  obtain ⟨j, h1, h2, h3, h4, h5⟩ := atI_get he
  have hl : z.cps.toList.length = z.length := by simp [Str.length]
  rw [hl] at h1 h4 h5
  have hn := line63
  exact tail_any (typeIs_str s z t) slot_str_getitem.lookup (getItem_str (c := c) (by
    have e1 : decide (i < -(2 ^ 63 : Int)) = false := decide_eq_false (by omega)
    have e2 : decide (i ≥ 2 ^ 63) = false := decide_eq_false (by omega)
    rw [e1, e2, Bool.or_false]) (by rw [h1]; simpa using h2) ⟨.str ⟨#[c]⟩, H, I.tok _, ⟨_, rfl⟩, q⟩) hs
/-- list, tuple or str -/
def rIx (K : PySem.W.Frag) : R2 := fun x y H Q => rIxL K x y H Q ∨ rIxT K x y H Q ∨ rIxS x y H Q
theorem ix_seq : IxR X (rIx X.K) := ix_list.or (ix_tup.or ix_str)

/-! ### xs[i] = v, any sign -/
/-- the list's object behind a store -/
theorem mapSeq_set (its : List Value) (n j : Nat) (u : Value) : Obj.mapSeq (·.setIfInBounds j u) { cls := .type "list", data := .seq its.toArray n } = { cls := .type "list", data := .seq (its.set j u).toArray n } := by
  simp [Obj.mapSeq]
theorem Inv.lst {pins : List (Addr × Obj)} {σ : St} {H : Hp} {s : Shared} {p : Addr} {xs : List V} (I : Inv X pins σ H s) (h : H p = some (.lst xs)) :
    ∃ (its : List Value) (n : Nat), Vals xs its ∧ s.heap.get? p = some { cls := .type "list", data := .seq its.toArray n } ∧ xs.length ≤ sizeLine := by
  obtain ⟨z, its, n, r, e⟩ := I.hok p _ h
  exact ⟨its, n, r, e, z⟩
/-- the list at p is written by an update of its object -/
theorem Inv.lstUpd {pins : List (Addr × Obj)} {σ : St} {H : Hp} {s : Shared} {p : Addr} {xs ys : List V} {its its' : List Value} {n n' : Nat} {f : Obj → Obj} (I : Inv X pins σ H s) (h : H p = some (.lst xs))
    (ho : s.heap.get? p = some { cls := .type "list", data := .seq its.toArray n }) (hf : f { cls := .type "list", data := .seq its.toArray n } = { cls := .type "list", data := .seq its'.toArray n' }) (r : Vals ys its') (hz : ys.length ≤ sizeLine) (t : Nat) :
    Inv X pins σ (upd H p (.lst ys)) { s with heap := s.heap.update p f, toks := t } := by
  have e : (s.heap.update p f).get? p = some { cls := .type "list", data := .seq its'.toArray n' } := by
    rw [Heap.get?_update_self f ho (by rw [hf] <;> rfl), hf]
  refine I.write (x := p) (e := p) (by rw [h]; trivial) (.inl rfl) (fun b u hb q => (Heap.get?_update_other _ _ (Ne.symm hb)).trans q) ⟨_, e⟩ ?_
  exact ⟨hz, its', n', r, e⟩
def rSetL : V → V → V → Hp → (Hp → Prop) → Prop := fun o i v H Q => ∃ p xs k j, o = .ref p ∧ i = .int k ∧ H p = some (.lst xs) ∧ ixN xs.length k = some j ∧ Q (upd H p (.lst (xs.set j v)))
theorem set_list : PSet X rSetL := by
  intro pins s σ H o i v ov iv u Q I ro ri rv h
  obtain ⟨p, xs, k, j, rfl, rfl, hp, hj, q⟩ := h
  cases ro
  obtain ⟨t, rfl⟩ := ri
  obtain ⟨its, n, r, ho, hz⟩ := I.lst hp
  obtain ⟨h1, h2, h3, h4⟩ := ixN_seq hj
  have hl := r.length
  have hn := line63
  have I' : Inv X pins σ (upd H p (.lst (xs.set j v))) { s with heap := s.heap.update p (Obj.mapSeq (·.setIfInBounds j u)) } :=
    I.lstUpd hp ho (mapSeq_set its n j u) (r.set rv j) (by rw [List.length_set]; exact hz) s.toks
  by_cases h0 : 0 ≤ k
  · have hk : k.toNat = j := by
      rw [seqIndex_of h0 h4] at h1
      exact Option.some.inj h1
    exact PySem.W.ki_setAt ho h0 (by omega) (by rw [List.size_toArray, ← hl]; exact h4) (by rw [hk]; exact ⟨_, I', q⟩)
  · have hk : (k + (its.toArray.size : Int)).toNat = j := by
      rw [seqIndex_neg (by omega) h3] at h1
      rw [List.size_toArray, ← hl]
      exact Option.some.inj h1
    exact PySem.W.ki_setBack ho (by omega) (by rw [List.size_toArray, ← hl]; exact h3) (by omega) (by rw [hk]; exact ⟨_, I', q⟩)

/-! ### slices -/

/-! ### in, not in: flat items -/

/-! ### len, list(x), tuple(x) of any list or tuple that is read -/
theorem CallR.or {f : Value} {r r' : List V → Hp → VK → Prop} (h : CallR X f r) (h' : CallR X f r') : CallR X f (fun xs H Q => r xs H Q ∨ r' xs H Q) := by
  intro pins s σ H xs us Q I rs q
  rcases q with q | q
  · exact h pins s σ H xs us Q I rs q
  · exact h' pins s σ H xs us Q I rs q
theorem call_list_of : CallR X (.type "list") (fun xs H Q => ∃ p ys, xs = [.ref p] ∧ (SqL X.K H p ys ∨ SqT X.K H p ys) ∧ ∀ l, H l = none → Q (.ref l) (upd H l (.lst ys))) := by
  intro pins s σ H xs us Q I r h
  obtain ⟨p, ys, rfl, hq, q⟩ := h
  obtain ⟨u, rfl, rx⟩ := vals1 r
  cases rx
  have fin : ∀ (its : List Value), Vals ys its → ys.length ≤ sizeLine → ∀ (h' : Heap) (c' : Nat), (∀ b o', s.heap.get? b = some o' → h'.get? b = some o') →
      h'.get? s.heap.objs.size = some { cls := .type "list", dict := none, data := .seq its.toArray c', slots := #[] } → EP X pins σ Q (.ref s.heap.objs.size) { s with heap := h' } := fun its r' hz h' c' kp e =>
    ⟨.ref s.heap.objs.size, _, I.laid (t' := s.toks) kp (Nat.le_refl _) (show ObjOk X.prog X.w _ h' _ (.lst ys) from ⟨hz, its, c', r', e⟩), rfl, q _ (I.hok.fresh (Nat.le_refl _))⟩
  rcases hq with hq | hq
  · obtain ⟨its, r', pl, hz⟩ := I.list hq
    have hlen := r'.length
    obtain ⟨o, ho, hc, n, hd⟩ := pl.isList
    exact call_list_seq p (.inl rfl) ho hc hd (fun h' c' kp e => fin its r' hz h' c' kp e) (by simp only [List.size_toArray] <;> omega)
  · obtain ⟨its, r', pl, hz⟩ := I.tuple hq
    have hlen := r'.length
    obtain ⟨o, ho, hc, n, hd⟩ := pl
    exact call_list_seq p (.inr rfl) ho hc hd (fun h' c' kp e => fin its r' hz h' c' kp e) (by simp only [List.size_toArray] <;> omega)

/-! ### the call of a builtin's method: o.m(..) -/
variable {o e : Expr} {es : List Expr} {to : TE} {t : TA} {name : Str} {apos cpos : Pos} {T id : String} {r : V → List V → Hp → VK → Prop}
/- xs.append(e), list.index on a module's tuple .. are MtR facts of 06m -/
end
end L2

namespace L2
open PySem PySem.Spec PyProof.Rows

def MtM (X : Cx) (id : String) (r : V → List V → Hp → VK → Prop) : Prop :=
  ∀ (pins : List (Addr × Obj)) (s : Shared) (σ : St) (H : Hp) (x : V) (xs : List V) (v : Value) (us : List Value) (Q : VK), Inv X pins σ H s → RelV x v → Vals xs us → r x xs H Q →
    wpAny (model X.prog X.w) X.A (call (.builtin id) (v :: us)) (EP X pins σ Q) X.xe s

/-! ### lists of values -/
theorem Vals.one : ∀ {x : V} {us : List Value}, Vals [x] us → ∃ u, us = [u] ∧ RelV x u
  | _, _, .cons r .nil => ⟨_, rfl, r⟩
theorem Vals.two : ∀ {x y : V} {us : List Value}, Vals [x, y] us → ∃ u v, us = [u, v] ∧ RelV x u ∧ RelV y v
  | _, _, _, .cons r (.cons q .nil) => ⟨_, _, rfl, r, q⟩
theorem Vals.zero : ∀ {us : List Value}, Vals [] us → us = []
  | _, .nil => rfl
theorem Vals.dropLast {xs : List V} {us : List Value} (h : Vals xs us) : Vals xs.dropLast us.dropLast := by
  induction h with
  | nil => exact .nil
  | cons r t ih =>
    cases t with
    | nil => exact .nil
    | cons q t' => exact .cons r ih
theorem Vals.eraseIdx : ∀ {xs : List V} {us : List Value} (i : Nat), Vals xs us → Vals (xs.eraseIdx i) (us.eraseIdx i)
  | _, _, _, .nil => .nil
  | _, _, 0, .cons _ t => t
  | _, _, i + 1, .cons r t => .cons r (Vals.eraseIdx i t)
theorem Vals.reverse {xs : List V} {us : List Value} (h : Vals xs us) : Vals xs.reverse us.reverse := by
  induction h with
  | nil => exact .nil
  | cons r t ih => rw [List.reverse_cons, List.reverse_cons]; exact Vals.append ih (.cons r .nil)
theorem Vals.rep {xs : List V} {us : List Value} (h : Vals xs us) : ∀ k : Nat, Vals (List.replicate k xs).flatten (List.replicate k us).flatten
  | 0 => .nil
  | k + 1 => by
    rw [List.replicate_succ, List.replicate_succ, List.flatten_cons, List.flatten_cons]
    exact Vals.append h (Vals.rep h k)
theorem foldl_rep (its : List Value) : ∀ (k : Nat) (acc : List Value),
    List.foldl (fun x1 x2 => x1 ++ x2) acc.toArray (List.replicate k its.toArray) = (acc ++ (List.replicate k its).flatten).toArray
  | 0, acc => by simp
  | k + 1, acc => by
    have e : acc.toArray ++ its.toArray = (acc ++ its).toArray := by simp
    have e2 : (acc ++ its) ++ (List.replicate k its).flatten = acc ++ (List.replicate (k + 1) its).flatten := by
      rw [List.replicate_succ, List.flatten_cons, List.append_assoc]
    rw [← e2, ← foldl_rep its k (acc ++ its), ← e, List.replicate_succ, List.foldl_cons]

section
variable {X : Cx} {pins : List (Addr × Obj)} {σ : St} {H : Hp} {s : Shared} {l b : Addr} {xs ys zs : List V}

/-! ### the two steps: a tracked list is rewritten, a new list is laid -/
theorem Inv.lset {its its' : List Value} {n : Nat} {f : Array Value → Array Value} {t' : Nat} (I : Inv X pins σ H s) (hH : H l = some (.lst xs))
    (e : s.heap.get? l = some { cls := .type "list", data := .seq its.toArray n }) (hf : f its.toArray = its'.toArray) (hv : Vals ys its') (hz : ys.length ≤ sizeLine) :
    Inv X pins σ (upd H l (.lst ys)) { s with heap := s.heap.update l (Obj.mapSeq f), toks := t' } := by
  have q := PySem.IsL.update e f
  rw [hf] at q
  refine I.write (x := l) (e := l) (by rw [hH]; exact trivial) (.inl rfl) (fun b' u hb hu => (Heap.get?_update_other s.heap (Obj.mapSeq f) (Ne.symm hb)).trans hu) ⟨_, q⟩ ?_
  exact ⟨hz, its', _, hv, q⟩
theorem Inv.lnew {its : List Value} {t' : Nat} (I : Inv X pins σ H s) (hv : Vals ys its) (hz : ys.length ≤ sizeLine) :
    Inv X pins σ (upd H s.heap.objs.size (.lst ys)) { s with heap := s.heap.push { cls := .type "list", data := .seq its.toArray }, toks := t' } :=
  I.laid (fun _ _ q => Heap.get?_push_of_some _ q) (Nat.le_refl _) ⟨hz, its, 0, hv, Heap.get?_push_size _ rfl⟩
theorem Inv.fresh (I : Inv X pins σ H s) : H s.heap.objs.size = none := I.hok.fresh (Nat.le_refl _)
theorem Inv.lstM (I : Inv X pins σ H s) (hH : H l = some (.lst xs)) : xs.length ≤ sizeLine ∧ ∃ (its : List Value) (n : Nat), Vals xs its ∧ xs.length = its.length ∧ s.heap.get? l = some { cls := .type "list", data := .seq its.toArray n } := by
  obtain ⟨z, its, n, r, e⟩ := I.hok l _ hH
  exact ⟨z, its, n, r, r.length, e⟩

theorem notLongL {n : Nat} (h : n ≤ sizeLine) : Builtin.List.listTooLong n = false := by
  unfold Builtin.List.listTooLong
  exact decide_eq_false (by omega)
end

section
variable {X : Cx}

/-! ### methods -/
def rAppend : V → List V → Hp → VK → Prop := fun x vs H Q => ∃ l xs y, x = .ref l ∧ vs = [y] ∧ H l = some (.lst xs) ∧ xs.length < sizeLine ∧ Q .non (upd H l (.lst (xs ++ [y])))
theorem mt_append : MtM X "list.append" rAppend := by
  intro pins s σ H x vs v us Q I rx rv h
  obtain ⟨l, xs, y, rfl, rfl, hH, hz, q⟩ := h
  cases rx
  obtain ⟨u, rfl, ru⟩ := rv.one
  obtain ⟨z, its, n, r, hl, e⟩ := I.lstM hH
  refine call_meets F.slot_list_append ⟨_, e, rfl⟩ F.entry_list_append (F.args_list_append_2 _ _) (PySem.list_append l its.toArray n u (by rw [List.size_toArray]; omega)) ⟨e, ?_⟩
  refine ⟨.non, _, I.lset (its' := its ++ [u]) hH e (by simp) (r.append (.cons ru .nil)) ?_, rfl, q⟩
  rw [List.length_append, List.length_singleton]
  omega






/-! ### list + list, list += list, list * int -/
def rCat : R2 := fun x y H Q => ∃ l b xs zs, x = .ref l ∧ y = .ref b ∧ H l = some (.lst xs) ∧ H b = some (.lst zs) ∧ xs.length + zs.length ≤ sizeLine ∧ ∀ p, H p = none → Q (.ref p) (upd H p (.lst (xs ++ zs)))
theorem op_cat : OpR X (binaryOp .Add) rCat := by
  intro pins s σ H x y v u Q I rx ry h
  obtain ⟨l, b, xs, zs, rfl, rfl, hH, hB, hz, q⟩ := h
  cases rx
  cases ry
  obtain ⟨z, its, n, r, hl, e⟩ := I.lstM hH
  obtain ⟨z2, its2, n2, r2, hl2, e2⟩ := I.lstM hB
  refine PySem.P.add_list e e2 ?_ (by rw [List.size_toArray, List.size_toArray]; omega)
  have ea : its.toArray ++ its2.toArray = (its ++ its2).toArray := by simp
  rw [ea]
  exact ⟨.ref _, _, I.lnew (t' := s.toks) (r.append r2) (by rw [List.length_append]; omega), rfl, q _ I.fresh⟩
/-- a list times an int (a negative one is nothing) -/
def rRep : R2 := fun x y H Q => ∃ l k xs, x = .ref l ∧ y = .int k ∧ H l = some (.lst xs) ∧ -(2 ^ 63) ≤ k ∧ k < 2 ^ 63 ∧ xs.length * k.toNat ≤ sizeLine ∧
  ∀ p, H p = none → Q (.ref p) (upd H p (.lst (List.replicate k.toNat xs).flatten))
theorem len_rep {α : Type} (xs : List α) (k : Nat) : (List.replicate k xs).flatten.length = k * xs.length := by
  induction k with
  | zero => simp
  | succ k ih => rw [List.replicate_succ, List.flatten_cons, List.length_append, ih, Nat.succ_mul, Nat.add_comm]
theorem op_rep : OpR X (binaryOp .Mult) rRep := by
  intro pins s σ H x y v u Q I rx ry h
  obtain ⟨l, k, xs, rfl, rfl, hH, h1, h2, hz, q⟩ := h
  cases rx
  obtain ⟨t, rfl⟩ := ry
  obtain ⟨z, its, n, r, hl, e⟩ := I.lstM hH
  have hlen : its.toArray.size * k.toNat ≤ sizeLine := by rw [List.size_toArray, ← hl]; exact hz
  have hcap : ¬ its.toArray.size * k.toNat > (2 ^ 63 - 1) / 8 := by
    have : (sizeLine : Nat) ≤ (2 ^ 63 - 1) / 8 := by decide
    omega
  have hfit : ¬ (!Builtin.List.listFitsIndex k) = true := by
    rw [fitsIndex_both h1 h2]
    exact Bool.false_ne_true
  have hlong : ¬ Builtin.List.listTooLong (its.toArray.size * k.toNat) = true := by
    rw [notLongL hlen]
    exact Bool.false_ne_true
  have hnew : List.foldl (fun x1 x2 => x1 ++ x2) #[] (List.replicate (if its.toArray.isEmpty = true then 0 else k.toNat) its.toArray) = (List.replicate k.toNat its).flatten.toArray := by
    have f0 : ∀ m : Nat, List.foldl (fun x1 x2 => x1 ++ x2) #[] (List.replicate m its.toArray) = (List.replicate m its).flatten.toArray := fun m => by
      have := foldl_rep its m []
      rw [List.nil_append] at this
      exact this
    rw [f0]
    cases its with
    | nil => simp
    | cons a r' => rw [if_neg (by simp)]
  refine wpAny_binaryOp_repeat_ref (T := "list") (U := "int") (by decide) ⟨_, e, rfl⟩ (fun s' => typeIs_int s' k t) noFill_list_mul F.fills_int_mul F.slot_int_rmul repeat_list F.slot_int_index.lookup
    (call_meets F.slot_int_rmul (typeIs_int s k t) F.entry_int_rmul (F.args_int_rmul_2 _ _) (int___rmul___int_list k t l its.toArray n)
      ⟨e, rfl, ⟨_, e, rfl⟩, call_meets F.slot_list_mul ⟨_, e, rfl⟩ F.entry_list_mul (F.args_list_mul_2 _ _) (AutoListH.list___mul___list_int_3 l its.toArray n k t hfit hcap hlong) ⟨e, ?_⟩⟩)
  rw [hnew]
  exact ⟨.ref _, _, I.lnew (t' := s.toks) (r.rep k.toNat) (by rw [len_rep, Nat.mul_comm]; exact hz), rfl, q _ I.fresh⟩

/-! ### del xs[i] -/
end

/-! ### xs[a:b] = ys -/
section
variable {prog : Program} {w : World} {A : Around} {E : Value → Shared → Prop} {s : Shared}
end

section
variable {X : Cx}
end
end L2

namespace Att
open PySem PySem.W PySem.Calls PyProof.Rows

/-! ### the script -/
theorem ints_of_wellAll {P : Params} {h : Heap} : ∀ (ns : List Int) (vs : List Value), WellAll P h vs (ns.map WData.int) → IntsAre vs ns := by
  intro ns
  induction ns with
  | nil =>
    intro vs w
    rw [List.map_nil] at w
    cases w
    exact .nil
  | cons n ns ih =>
    intro vs w
    rw [List.map_cons] at w
    cases w with
    | cons a b =>
      cases a
      exact .cons _ _ (ih _ b)

theorem script_of {l : OpenLaw} {n : Nat} (hn : l.most = some n) {P : Params} {h : Heap} {args : List WData} {vals : List Value}
    (hpre : l.row.toRowW.claim.pre args = true) (hwl : WellAll P h vals args) :
    ∃ a vs ns, vals = [Value.ref a] ∧ args = [WData.list (ns.map WData.int)] ∧ h.get? a = some { cls := .type "list", data := .seq vs.toArray } ∧ IntsAre vs ns ∧ ns.length ≤ n := by
  have hsh : WShape.hasAll [] args [.list .int] = true := (pre_splitW hpre).1
  have hc : l.pre.holds [] { args := args } = true := (pre_splitW hpre).2
  obtain ⟨d, r, rfl, h1, h2⟩ := hasAllW_cons hsh
  obtain rfl := hasAllW_nil h2
  obtain ⟨xs, rfl, h3⟩ := hasW_list h1
  obtain ⟨ns, rfl⟩ := items_int h3
  have hlen : ns.length ≤ n := by
    unfold OpenLaw.pre at hc
    have h4 : (WTm.not (.lt (.lit (.int (n : Int))) (.len (.arg 0)))).holds [] { args := [.list (ns.map .int)] } = true := by
      have h4 := (holds_andW hc).1
      rw [hn] at h4
      exact h4
    have h5 := condW_of h4 (w_not (w_lt w_lit (w_len_list (w_arg rfl))))
    rw [List.length_map] at h5
    refine Nat.le_of_not_lt fun q => ?_
    have q' : (n : Int) < ((ns.length : Nat) : Int) := by omega
    first
      | (rw [decide_eq_true q'] at h5; exact absurd h5 (by decide))
      | (simp at h5; omega)
  cases hwl with
  | cons w1 w2 =>
    cases w2
    cases w1 with
    | list ho hall => exact ⟨_, _, ns, rfl, rfl, ho, ints_of_wellAll ns _ hall, hlen⟩

theorem post_true (l : OpenLaw) (args : List WData) : l.row.toRowW.claim.post args (.bool true) args = true :=
  postW_of (r := l.row.toRowW) (X := (true == true))
    (show WShape.has [] (.bool true) .bool = true by first | rfl | decide | simp [WShape.has, WShape.arms, WShape.armsAll])
    (show (WTm.eq .res (.lit (.bool true))).value [] { args := args, res := some (.bool true), after := args } = some (.bool (true == true)) from w_eq_bool (w_res rfl) w_lit) rfl

/-! ### the attachment: holds_open's last premise (the goal 'hc' behind k_head) from a wpAny of the law's body -/

/-- the same from a codeAny of the CALL (for a layer whose function contracts speak of calls) -/
theorem attach_call {l : OpenLaw} {n : Nat} {q : Program} {loose : List Str} {XP : (Str → Option Value) → Heap → Prop} {YP : World → Heap → Prop} {d : DefRec}
    (hn : l.most = some n) (hdf : d.params.defaults = [])
    (call : ∀ (w : World) (s₀ s₁ : Shared) (mg mb : Str → Option Value) (fa : Addr) (o : Obj) (pm cd doc : Value) (a : Addr) (vs : List Value) (ns : List Int),
      Ground q loose [] XP w s₀ mg mb s₁.heap → YP w s₁.heap →
      s₁.heap.get? fa = some o → o.data = .func (docDef d.name d.params d.body d.scope pm cd doc) → s₁.heap.CodeRec cd d.name → mg d.name = some (.ref fa) →
      s₁.heap.get? a = some { cls := .type "list", data := .seq vs.toArray } → IntsAre vs ns → ns.length ≤ n → s₁.gens = #[] →
      codeAny (model l.prog w) callerA (.call (.ref fa) ⟨[.ref a], []⟩) (fun r s' => r = .ok (.ret (.bool true)) ∧ OldK s₁.heap s'.heap ∧ s'.os = s₁.os ∧ AllBare s'.gens) s₁) :
    WalkO q loose XP YP l.row.toRowW d [] (fun f vs => PySem.call f vs) := by
  intro w s₀ s₁ mg mb G Y fa o pm cd doc dV kV ho hd hcd hD hmg hg args vals as hpre hlay hrd hwl hlo
  obtain rfl : dV = .none := Dflts.none hD hdf
  obtain rfl : kV = .none := Dflts.noKw hD
  obtain ⟨a, vs, ns, rfl, rfl, hobj, hints, hlen⟩ := script_of hn hpre hwl
  refine enter_call (codeAny_mono (call w s₀ s₁ mg mb fa o pm cd doc a vs ns G Y ho (fd_plain hd) hcd hmg hobj hints hlen hg) fun r s' hq => ?_)
  obtain ⟨rfl, h2, h3, h4⟩ := hq
  exact ⟨.inl ⟨.bool true, .bool true, [], rfl, fun _ => rfl, .bool true, post_true l _, fun _ => ⟨List.Pairwise.nil, fun _ hm => (nomatch hm)⟩⟩, h2, h3, h4⟩


/-! ### rules over ANY heap (no ledger) from facts about the written part K: the library's own take a ledger (News) for what they write -/
section
variable {prog : Program} {w : World} {A : Around} {E : Value → Shared → Prop} {s : Shared} {K : Frag}





/-! the whole heap as the ledger: makes every rule that writes through a ledger a rule over any heap -/
def ledger (h : Heap) (L d : Addr) : List (Addr × Obj) := (List.range h.objs.size).filterMap fun a => if a = L ∨ a = d then none else (h.get? a).map fun o => (a, o)

end
end Att

namespace L2
open PySem PySem.Spec PyProof.Rows

theorem vals_ints : ∀ {vs : List Value} {ns : List Int}, IntsAre vs ns → Vals (ns.map V.int) vs
  | _, _, .nil => .nil
  | _, _, .cons n t h => .cons ⟨t, rfl⟩ (vals_ints h)

/-- nothing is tracked but the script, known to the object (or it is an object of the module) -/
def Only (H : Hp) : Prop := ∀ b, H b = none ∨ ∃ o xs, H b = some (.frz o (.lst xs))

/-- THE HEAD: the law's promise, at the heap behind the top. F, the promise of the law's def, may use that base is part of the heap (so K.In base, base.Ns mainGlobals mg stand in Mod) -/
theorem law_call {P : Program} {w : World} {K : PySem.W.Frag} {mg mb : Str → Option Value} {CX : CXT} {k : Nat} {fa a : Addr} {fd : FuncData} {x : Str} {sp : Sp} {s₁ : Shared} {vs : List Value} {ns : List Int}
    (KX : K.In s₁.heap) (hns : s₁.heap.Ns mainGlobals mg) (hb : s₁.heap.Ns builtinsNs mb) (hbb : ∀ x : Str, x ≠ "__name__" → mb x = bootBuiltins x) (hlim : s₁.heap.NoLimit) (hg : s₁.gens = #[])
    (ha : s₁.heap.get? a = some { cls := .type "list", data := .seq vs.toArray }) (hi : IntsAre vs ns) (hl : ns.length ≤ sizeLine) (hr : Room k callerA)
    (F : ∀ base : Heap, K.In base → base.Ns mainGlobals mg → FnOk P w K mg base CX k fa fd [x] sp) (hbind : ∀ (s : Shared) (u : Value), BindsTo s fd ⟨[u], []⟩ [(x, u)])
    (hsp : ∀ H : Hp, Only H → SqL K H a (ns.map V.int) → sp [.ref a] H (fun v _ => v = .bl true) fun _ _ _ => False)
    (hCX : ∀ H e s', CX [] H s₁ (fun _ _ _ => False) e s' → False) :
    codeAny (model P w) callerA (.call (.ref fa) ⟨[.ref a], []⟩) (fun r s' => r = .ok (.ret (.bool true)) ∧ OldK s₁.heap s'.heap ∧ s'.os = s₁.os ∧ AllBare s'.gens) s₁ := by
  have rv := vals_ints hi
  have lenV := hi.length
  -- from an abstract heap in which nothing but the script may be tracked
  have core : ∀ H : Hp, Only H → SqL K H a (ns.map V.int) → HOk P w H s₁.heap → (∀ b, H b ≠ none → b = a) → (H a ≠ none → K.lookup a = none) →
      codeAny (model P w) callerA (.call (.ref fa) ⟨[.ref a], []⟩) (fun r s' => r = .ok (.ret (.bool true)) ∧ OldK s₁.heap s'.heap ∧ s'.os = s₁.os ∧ AllBare s'.gens) s₁ := by
    intro H hO hS hok hA hK
    have base_of : ∀ {b : Addr} {o : Obj}, s₁.heap.get? b = some o → H b = none → (hidT s₁.heap H).get? b = some o := fun e n => hidT_get e n
    have noA : ∀ {b : Addr} {o : Obj} {es : Array DictEntry} {ep : Nat}, s₁.heap.get? b = some o → o.data = .dict es ep → H b = none := fun {b o es ep} e d => by
      cases q : H b with
      | none => rfl
      | some u =>
        have e' : b = a := hA b (by rw [q]; simp)
        subst e'
        rw [ha] at e; cases e
        have d' : Data.seq vs.toArray _ = Data.dict es ep := d
        cases d'
    have nsK : ∀ {b : Addr} {m : Str → Option Value}, s₁.heap.Ns b m → (hidT s₁.heap H).Ns b m := fun {b m} ⟨o, es, ep, e, d, r⟩ => ⟨o, es, ep, base_of e (noA e d), d, r⟩
    have hKb : K.In (hidT s₁.heap H) := fun b o e => base_of (KX b o e) (by
      cases q : H b with
      | none => rfl
      | some u =>
        have e' : b = a := hA b (by rw [q]; simp)
        subst e'
        rw [hK (by rw [q]; simp)] at e; cases e)
    have hM : Mod K mg (hidT s₁.heap H) := ⟨hKb, nsK hns, ⟨mb, nsK hb, hbb⟩, let ⟨mc, h1, h2⟩ := hlim; ⟨mc, nsK h1, h2⟩⟩
    have e0 : Env0 P w K mg (hidT s₁.heap H) callerA [] s₁ H := ⟨rfl, hM, fun b o e => of_hidT e, Nat.le_of_eq (hidT_size _ _), trivial, fun b hb => absurd (show b ∈ ([] : List Addr) from hb) (by simp), hok, .of_eq hg⟩
    refine codeAny_mono ((F _ hKb (nsK hns)).run callerA [] s₁ H ⟨[.ref a], []⟩ [.ref a] [.ref a] _ _ hr e0 (hbind s₁ (.ref a)) (.cons rfl .nil) (hsp H hO hS)) fun r s' h => ?_
    cases r with
    | error e => exact (hCX H e s' h).elim
    | ok fl =>
      cases fl with
      | next => exact False.elim h
      | brk => exact False.elim h
      | cont => exact False.elim h
      | ret u =>
        obtain ⟨v, H', os, bare, un, hok', r', q⟩ := h
        have q' : v = .bl true := q
        subst q'
        obtain rfl : u = Value.bool true := r'
        refine ⟨rfl, OldK.of_keep fun b o e => ?_, os, bare⟩
        cases q : H b with
        | none => exact un.keep b o e q (by intro z; exact absurd (show b ∈ ([] : List Addr) from z) (by simp)) (by simp)
        | some u =>
          rcases hO b with z | ⟨ob, xs, z⟩
          · rw [q] at z; cases z
          · have z2 := un.frzs b ob _ z
            obtain ⟨e1, _⟩ := hok b _ z
            obtain ⟨e2, _⟩ := hok' b _ z2
            rw [e] at e1; cases e1
            exact e2
  cases hk : K.lookup a with
  | some o =>
    -- the script is one of the module's own objects
    have e := KX a o hk
    rw [ha] at e
    cases e
    refine core (fun _ => none) (fun _ => .inl rfl) (.inr ⟨_, vs.toArray, _, hk, rfl, rfl, rfl, by rw [List.size_toArray, lenV]; exact hl, by simpa using rv⟩) (fun b u z => by have z' : (none : Option HO) = some u := z; cases z') (fun b z => absurd rfl z) fun z => absurd rfl z
  | none =>
    refine core (fun b => if b = a then some (.frz { cls := .type "list", data := .seq vs.toArray } (.lst (ns.map V.int))) else none) (fun b => ?_) (.inl (.inr ⟨{ cls := .type "list", data := .seq vs.toArray }, if_pos rfl⟩)) (fun b u z => ?_) (fun b z => ?_) fun _ => hk
    · by_cases hb : b = a
      · exact .inr ⟨_, _, if_pos hb⟩
      · exact .inl (if_neg hb)
    · by_cases hb : b = a
      · have z' := (if_pos hb).symm.trans z
        cases z'
        subst hb
        exact ⟨ha, by rw [List.length_map]; exact hl, vs, _, rv, ha⟩
      · have z' := (if_neg hb).symm.trans z
        cases z'
    · by_cases hb : b = a
      · exact hb
      · exact absurd (if_neg hb) z
end L2

namespace L2
open PySem PySem.Spec PyProof.Rows

abbrev KOf {K : PySem.W.Frag} {h : Heap} (_ : K.In h) : PySem.W.Frag := K

/-- the goal that k_head leaves (case hc), from the law's promise. F gives the function object fd (K's own) once, then the promise over every base -/
theorem walk_of {l : PySem.W.OpenLaw} {n k : Nat} {q : Program} {loose : List Str} {XP : (Str → Option Value) → Heap → Prop} {YP : World → Heap → Prop} {d : DefRec} {K : Params → PySem.W.Frag} {CX : World → CXT} {sp : World → Sp} {x : Str}
    (hn : l.most = some n) (hn2 : n ≤ sizeLine) (hdf : d.params.defaults = []) (hr : Room k callerA)
    (hY : ∀ (w : World) (h : Heap), YP w h → (K w.params).In h)
    (F : ∀ (w : World) (mg : Str → Option Value) (fa : Addr) (h : Heap), (K w.params).In h → h.Ns mainGlobals mg → mg d.name = some (.ref fa) →
      ∃ fd : FuncData, (∀ (s : Shared) (u : Value), BindsTo s fd ⟨[u], []⟩ [(x, u)]) ∧
        ∀ base : Heap, (K w.params).In base → base.Ns mainGlobals mg → FnOk l.prog w (K w.params) mg base (CX w) k fa fd [x] (sp w))
    (hsp : ∀ (w : World) (H : Hp) (a : Addr) (ns : List Int), ns.length ≤ n → Only H → SqL (K w.params) H a (ns.map V.int) → sp w [.ref a] H (fun v _ => v = .bl true) fun _ _ _ => False)
    (hCX : ∀ (w : World) (H : Hp) (s : Shared) (e : Value) (s' : Shared), CX w [] H s (fun _ _ _ => False) e s' → False) :
    PySem.W.WalkO q loose XP YP l.row.toRowW d [] (fun f vs => PySem.call f vs) := by
  refine Att.attach_call hn hdf fun w s₀ s₁ mg mb fa o pm cd doc a vs ns G Y ho hd hcd hmg hobj hints hlen hg => ?_
  have KX := hY w _ Y
  obtain ⟨fd, hb, hF⟩ := F w mg fa _ KX G.T.g hmg
  exact law_call KX G.T.g G.T.b G.T.builtins G.T.nolimit hg hobj hints (Nat.le_trans hlen hn2) hr hF hb (fun H hO hS => hsp w H a ns hlen hO hS) fun H e s' => hCX w H s₁ e s'
end L2

/- THE LAST THEOREM (shape; LID, My.* are yours):
   My.Adr: a structure of the addresses that your layer names (classes, functions); My.Txt K t: a structure (Prop) of the equations over K;
   My.txt_mk : {K} {implicit addresses ..} (e1 : nsIn K mainGlobals "law" = some (some (.ref f))) (e2 : K.lookup f = some ⟨oc, od, .func (fnOf "law" "law" params body scope dV kV doc pm an cdv ct), sl⟩) (e3 : codeIn K cdv "law" = true) .. : ∃ t, My.Txt K t

set_option maxRecDepth 100000 in
set_option maxHeartbeats 0 in
theorem PySem.Challenge.cw_LID_holds : PySem.Challenge.rw_LID.Holds := by
  w_on; o_law; k_head; (case hw => w_witness2)
  k_fill
  refine L2.walk_of (l := PySem.Challenge.rw_LID) (n := 63) (k := 40) (x := "script") (CX := fun w => ..) (sp := fun _ => My.sp_law) rfl (by decide) rfl ⟨rfl, by decide, by decide⟩ (fun w h Y => PySem.W.kIn_of Y) ?F ?S ?C
  case F =>
    intro w mg fa h KX G hmg
    have T : ∃ t, My.Txt (L2.KOf KX) t := by
      dsimp only [L2.KOf]                          -- K must stand as «<heap const> w.params» for k_is
      refine' My.txt_mk ?e1 ?e2 ?e3 ..
      (case e1 => PySem.W.k_is)                    -- in the order: a name -> its address -> its object -> its parts
      (case e2 => PySem.W.k_is)
      ..
    obtain ⟨t, T⟩ := T
    have e0 := hmg.symm.trans (PySem.W.mg_of KX G T.law)
    cases e0                                       -- fa is the law's own address
    exact ⟨_, fun s u => .of_eq rfl, fun base kb nb => My.law_fn T kb nb⟩     -- if «.of_eq rfl» comes too early: refine' ⟨_, ?b, fun base kb nb => My.law_fn T kb nb⟩; exact fun s u => .of_eq rfl
  case S => exact fun w H a ns hl hO hS => ..
  case C => exact ..
(the tactic k_is has no namespace: write k_is) -/

/-! SHORT WORDS over the layer: a def of the text, its body, what a loop and a test want. -/
namespace L2
open PySem PySem.Spec PyProof.Rows

/-! ### the text by places -/
def defArgs (s : Stmt) : Arguments := match s with
  | .FunctionDef _ a _ _ _ _ _ _ _ _ => a
  | _ => { posonlyargs := [], args := [], vararg := none, kwonlyargs := [], kw_defaults := [], kwarg := none, defaults := [] }
def defBody (s : Stmt) : List Stmt := match s with
  | .FunctionDef _ _ b _ _ _ _ _ _ _ => b
  | _ => []
def defScope (s : Stmt) : Scope := match s with
  | .FunctionDef _ _ _ _ _ _ sc _ _ _ => sc
  | _ => { kind := .function, names := [], isGenerator := false, isCoroutine := false }

/-! ### no exception leaves a def -/
abbrev CX0 : CXT := fun _ _ _ _ _ _ => False
abbrev E0 : XK := fun _ _ _ => False
theorem pass0 {X : Cx} : Passes CX0 X E0 := fun _ _ _ _ _ _ _ h => h.elim

/-! ### a def (or method) of the text as it stands behind the top -/
structure Fun (K : PySem.W.Frag) (x qual : Str) (st : Stmt) (f : Addr) (fd : FuncData) : Prop where
  ex : ∃ (oc : Value) (od : Option Addr) (kV doc pm : Value) (an : Option Addr) (cdv ct : Value) (osl : Array (Option Value)),
    fd = PySem.W.fnOf x qual (defArgs st) (defBody st) (defScope st) .none kV doc pm an cdv ct ∧ K.lookup f = some ⟨oc, od, .func fd, osl⟩ ∧ PySem.W.codeIn K cdv qual = true
  kp : PySem.W.keepIn K (.ref f) = true
section
variable {P : Program} {w : World} {K : PySem.W.Frag} {mg : Str → Option Value} {base : Heap}
/-- THE RULE for a def: its body as a term of rules, and the reading of that term -/
theorem Fun.ok {x qual : Str} {st : Stmt} {f : Addr} {fd : FuncData} {N ps : List Str} {k : Nat} {sp : Sp} (F : Fun K x qual st f fd) (S : FnScope N ps (defScope st)) (len : ∀ vs H Q E, sp vs H Q E → vs.length = ps.length)
    (hbody : ∀ (cdv : Value) (A : Around) (outer : List Env) (s : Shared) (H : Hp) (vs : List V) (Q : VK) (E : XK), Room k (A.deeper (envOfC qual (defScope st) s.heap.objs.size f cdv)) → sp vs H Q E →
      ∃ t, PSs (cxOf CX0 P w K mg base N qual (defScope st) f cdv A outer s H E).nox (defBody st) t ∧ t { nx := fun _ H' => Q .non H', rt := Q } (start N vs) H) : FnOk P w K mg base CX0 (k + 1) f fd ps sp := by
  obtain ⟨oc, od, kV, doc, pm, an, cdv, ct, osl, rfl, lk, hcd⟩ := F.ex
  refine fn_of lk hcd S len fun A outer s H vs Q E hr hsp => ?_
  obtain ⟨t, h, q⟩ := hbody cdv A outer s H vs Q E hr hsp
  exact ⟨t, h.nox, q⟩
/-- how its arguments bind (no defaults): h is «fun _ _ _ _ _ _ us hl => match us, hl with | [_, _], _ => rfl», one _ a parameter -/
theorem Fun.binds {x qual : Str} {st : Stmt} {f : Addr} {fd : FuncData} {ps : List Str} (F : Fun K x qual st f fd)
    (h : ∀ (kV doc pm : Value) (an : Option Addr) (cdv ct : Value) (us : List Value), us.length = ps.length → bindArgs (PySem.W.fnOf x qual (defArgs st) (defBody st) (defScope st) .none kV doc pm an cdv ct) ⟨us, []⟩ = pure (ps.zip us)) : Binds K fd ps [] := by
  obtain ⟨oc, od, kV, doc, pm, an, cdv, ct, osl, rfl, lk, hcd⟩ := F.ex
  exact .all (h kV doc pm an cdv ct)
theorem fun_mk {x qual : Str} {st : Stmt} {f : Addr} {oc : Value} {od an : Option Addr} {osl : Array (Option Value)} {kV doc pm cdv ct : Value} (l : K.lookup f = some ⟨oc, od, .func (PySem.W.fnOf x qual (defArgs st) (defBody st) (defScope st) .none kV doc pm an cdv ct), osl⟩)
    (c : PySem.W.codeIn K cdv qual = true) (k : PySem.W.keepIn K (.ref f) = true) : Fun K x qual st f (PySem.W.fnOf x qual (defArgs st) (defBody st) (defScope st) .none kV doc pm an cdv ct) := ⟨⟨oc, od, kV, doc, pm, an, cdv, ct, osl, rfl, l, c⟩, k⟩
end
theorem small1000 {n : Nat} (h : n ≤ 1000) : n < sizeLine := Nat.lt_of_le_of_lt h (by decide)

/-! ### expressions in short: the name that stands in the i-th slot -/
section
variable {X : Cx}
theorem pv (i : Nat) {x : Str} {pos : Pos} (hN : X.N[i]? = some x := by rfl) (hv : Vis X.env.scope x := by first | exact Or.inl rfl | exact Or.inr (Or.inl rfl) | exact Or.inr (Or.inr rfl)) (hd : (x == ("__debug__" : Str)) = false := by decide)
    (hcd : (x == ("__classdict__" : Str)) = false := by decide) : PE X (.Name x pos) (tVar i) := pe_var hN hv hd hcd
end

/-! ### tests -/
theorem iteF {A B : Prop} (h : B) : if false = true then A else B := by
  rw [if_neg Bool.false_ne_true]
  exact h
theorem iteT {A B : Prop} (h : A) : if true = true then A else B := by
  rw [if_pos rfl]
  exact h

/-! ### heaps -/
/-- all that was tracked is as it was -/
def Same (H H' : Hp) : Prop := ∀ b o, H b = some o → H' b = some o
theorem Same.refl (H : Hp) : Same H H := fun _ _ h => h
theorem Same.trans {H H1 H2 : Hp} (a : Same H H1) (b : Same H1 H2) : Same H H2 := fun c o h => b c o (a c o h)
theorem Same.free {H H' : Hp} (e : Same H H') {l : Addr} (h : H' l = Option.none) : H l = Option.none := by
  cases q : H l with
  | none => rfl
  | some o =>
    rw [e l o q] at h
    cases h
theorem Same.seq {K : PySem.W.Frag} {H H' : Hp} {a : Addr} {xs : List V} (e : Same H H') (h : SqL K H a xs) : SqL K H' a xs := by
  rcases h with (h | ⟨o, h⟩) | h
  · exact .inl (.inl (e _ _ h))
  · exact .inl (.inr ⟨o, e _ _ h⟩)
  · exact .inr h

end L2

namespace L2
open PySem PySem.Spec PyProof.Rows

/-! ### lists of pairs as tables -/
section
variable {κ : Type} [DecidableEq κ]
def valV (kvs : List (κ × V)) (k : κ) : Option V := (kvs.find? fun kv => decide (kv.1 = k)).map (·.2)
/-- in its place, or at the end -/
def putK (kvs : List (κ × V)) (k : κ) (v : V) : List (κ × V) :=
  if (kvs.any fun kv => decide (kv.1 = k)) = true then kvs.map (fun kv => if kv.1 = k then (kv.1, v) else kv) else kvs ++ [(k, v)]
def dropK (kvs : List (κ × V)) (k : κ) : List (κ × V) := kvs.filter fun kv => decide (kv.1 ≠ k)

theorem valV_pos {p : κ × V} {r : List (κ × V)} {k : κ} (e : p.1 = k) : valV (p :: r) k = some p.2 := by simp [valV, List.find?_cons, e]
theorem valV_neg {p : κ × V} {r : List (κ × V)} {k : κ} (e : ¬ p.1 = k) : valV (p :: r) k = valV r k := by simp [valV, List.find?_cons, e]
theorem valV_any (k : κ) : ∀ kvs : List (κ × V), (kvs.any fun kv => decide (kv.1 = k)) = (valV kvs k).isSome
  | [] => rfl
  | p :: r => by
    rw [List.any_cons]
    by_cases e : p.1 = k
    · simp only [valV_pos e, decide_eq_true e, Bool.true_or, Option.isSome_some]
    · rw [valV_neg e, decide_eq_false e, Bool.false_or]; exact valV_any k r

theorem RelO.isSome_eq {o : Option V} {u : Option Value} (r : RelO o u) : o.isSome = u.isSome := by
  cases o with
  | none => cases u with
    | none => rfl
    | some _ => exact (show False from r).elim
  | some _ => cases u with
    | none => exact (show False from r).elim
    | some _ => rfl
theorem RelO.getD {o : Option V} {u : Option Value} {d : V} {d' : Value} (r : RelO o u) (rd : RelV d d') : RelV (o.getD d) (u.getD d') := by
  cases o with
  | none => cases u with
    | none => exact rd
    | some _ => exact (show False from r).elim
  | some _ => cases u with
    | none => exact (show False from r).elim
    | some _ => exact r

/-- raw tables of the same keys -/
theorem KV.val {kvs : List (κ × V)} {vs : List (κ × Value)} (r : KV kvs vs) (k : κ) : RelO (valV kvs k) (valueAt vs k) := by
  unfold KV at r
  induction r with
  | nil => exact True.intro
  | @cons p q ps qs h t ih =>
    obtain ⟨h1, h2⟩ := h
    by_cases e : p.1 = k
    · have e' : q.1 = k := h1.symm.trans e
      have b : valueAt (q :: qs) k = some q.2 := by simp [valueAt, List.find?_cons, e']
      rw [valV_pos e, b]; exact h2
    · have e' : ¬ q.1 = k := fun z => e (h1.trans z)
      have b : valueAt (q :: qs) k = valueAt qs k := by simp [valueAt, List.find?_cons, e']
      rw [valV_neg e, b]; exact ih
theorem KV.any {kvs : List (κ × V)} {vs : List (κ × Value)} (r : KV kvs vs) (k : κ) : (kvs.any fun kv => decide (kv.1 = k)) = vs.any fun kv => decide (kv.1 = k) := by
  unfold KV at r
  induction r with
  | nil => rfl
  | cons h t ih => rw [List.any_cons, List.any_cons, ih, h.1]
theorem KV.repl {kvs : List (κ × V)} {vs : List (κ × Value)} (r : KV kvs vs) (k : κ) {y : V} {u : Value} (ry : RelV y u) :
    KV (kvs.map fun kv => if kv.1 = k then (kv.1, y) else kv) (vs.map fun kv => if kv.1 = k then (kv.1, u) else kv) := by
  unfold KV at r ⊢
  induction r with
  | nil => exact .nil
  | @cons p q ps qs h t ih =>
    rw [List.map_cons, List.map_cons]
    refine .cons ?_ ih
    obtain ⟨h1, h2⟩ := h
    by_cases e : p.1 = k
    · rw [if_pos e, if_pos (h1.symm.trans e)]; exact ⟨h1, ry⟩
    · rw [if_neg e, if_neg (fun z => e (h1.trans z))]; exact ⟨h1, h2⟩
theorem KV.put {kvs : List (κ × V)} {vs : List (κ × Value)} (r : KV kvs vs) (k : κ) {y : V} {u : Value} (ry : RelV y u) : KV (putK kvs k y) (stored vs k u) := by
  unfold putK stored
  rw [r.any k]
  by_cases e : (vs.any fun kv => decide (kv.1 = k)) = true
  · rw [if_pos e, if_pos e]; exact r.repl k ry
  · rw [if_neg e, if_neg e]; exact Paired.snoc r ⟨rfl, ry⟩
theorem KV.drop {kvs : List (κ × V)} {vs : List (κ × Value)} (r : KV kvs vs) (k : κ) : KV (dropK kvs k) (without vs k) := by
  unfold KV at r ⊢
  unfold dropK without
  induction r with
  | nil => exact .nil
  | @cons p q ps qs h t ih =>
    obtain ⟨h1, h2⟩ := h
    rw [List.filter_cons, List.filter_cons]
    by_cases e : p.1 = k
    · have a : ¬ decide (p.1 ≠ k) = true := by simp [e]
      have b : ¬ decide (q.1 ≠ k) = true := by simp [h1.symm.trans e]
      rw [if_neg a, if_neg b]; exact ih
    · have e' : ¬ q.1 = k := fun z => e (h1.trans z)
      have a : decide (p.1 ≠ k) = true := by simp [e]
      have b : decide (q.1 ≠ k) = true := by simp [e']
      rw [if_pos a, if_pos b]; exact .cons ⟨h1, h2⟩ ih
theorem KV.keys {kvs : List (κ × V)} {vs : List (κ × Value)} (r : KV kvs vs) : kvs.map (·.1) = vs.map (·.1) := by
  unfold KV at r
  induction r with
  | nil => rfl
  | cons h t ih => rw [List.map_cons, List.map_cons, ih, h.1]
theorem KV.length {kvs : List (κ × V)} {vs : List (κ × Value)} (r : KV kvs vs) : kvs.length = vs.length := Paired.length r
end


/-! ### a tracked dict, its keys ints and texts or tuples of these -/

/-- raw entries of a dict with tuple keys -/
abbrev KT (H : Hp) : List (List Key × V) → List (List Key × Addr × Value) → Prop := Paired fun p q => p.1 = q.1 ∧ H q.2.1 = some (.tup (p.1.map kV)) ∧ RelV p.2 q.2.2
theorem KT.val {H : Hp} {kvs : List (List Key × V)} {xs : List (List Key × Addr × Value)} (r : KT H kvs xs) (k : List Key) : RelO (valV kvs k) ((atKey xs k).map (·.2)) := by
  induction r with
  | nil => exact True.intro
  | @cons p q ps qs h t ih =>
    obtain ⟨h1, _, h2⟩ := h
    by_cases e : p.1 = k
    · have e' : q.1 = k := h1.symm.trans e
      have b : atKey (q :: qs) k = some q.2 := by simp [atKey, List.find?_cons, e']
      rw [valV_pos e, b]; exact h2
    · have e' : ¬ q.1 = k := fun z => e (h1.trans z)
      have b : atKey (q :: qs) k = atKey qs k := by simp [atKey, List.find?_cons, e']
      rw [valV_neg e, b]; exact ih
theorem KT.repl {H : Hp} {kvs : List (List Key × V)} {xs : List (List Key × Addr × Value)} (r : KT H kvs xs) (k : List Key) {y : V} {u : Value} (ry : RelV y u) :
    KT H (kvs.map fun kv => if kv.1 = k then (kv.1, y) else kv) (xs.map (putAt k u)) := by
  induction r with
  | nil => exact .nil
  | @cons p q ps qs h t ih =>
    rw [List.map_cons, List.map_cons]
    refine .cons ?_ ih
    obtain ⟨h1, h2, h3⟩ := h
    unfold putAt
    by_cases e : p.1 = k
    · rw [if_pos e, if_pos (h1.symm.trans e)]; exact ⟨h1, h2, ry⟩
    · rw [if_neg e, if_neg (fun z => e (h1.trans z))]; exact ⟨h1, h2, h3⟩
theorem KT.put {H : Hp} {kvs : List (List Key × V)} {xs : List (List Key × Addr × Value)} (r : KT H kvs xs) (k : List Key) {b : Addr} {y : V} {u : Value} (hb : H b = some (.tup (k.map kV))) (ry : RelV y u) :
    KT H (putK kvs k y) (storedH xs k b u) := by
  have e : (kvs.any fun kv => decide (kv.1 = k)) = (atKey xs k).isSome := by
    rw [valV_any, (r.val k).isSome_eq, Option.isSome_map]
  unfold putK storedH
  rw [e]
  by_cases q : (atKey xs k).isSome = true
  · rw [if_pos q, if_pos q]; exact r.repl k ry
  · rw [if_neg q, if_neg q]; exact Paired.snoc r ⟨rfl, hb, ry⟩
theorem KT.keeps {H H' : Hp} {kvs : List (List Key × V)} {xs : List (List Key × Addr × Value)} (r : KT H kvs xs) (ht : ∀ b ys, H b = some (.tup ys) → H' b = some (.tup ys)) : KT H' kvs xs :=
  Paired.mapP r fun _ _ z => ⟨z.1, ht _ _ z.2.1, z.2.2⟩

section
variable {P : Program} {w : World} {H : Hp} {h : Heap} {a : Addr}
end

/-- what the dict at a holds at the key y -/
def DGet (H : Hp) (a : Addr) (y : V) (r : Option V) : Prop :=
  (∃ kvs k, Rd H a (.dK kvs) ∧ y = kV k ∧ r = valV kvs k) ∨ ∃ kvs k b, Rd H a (.dT kvs) ∧ y = .ref b ∧ H b = some (.tup (k.map kV)) ∧ r = valV kvs k
/-- the heap behind a[y] = v -/
def DPut (H : Hp) (a : Addr) (y v : V) (H' : Hp) : Prop :=
  (∃ kvs k, H a = some (.dK kvs) ∧ y = kV k ∧ kvs.length < sizeLine ∧ H' = upd H a (.dK (putK kvs k v))) ∨
  ∃ kvs k b, H a = some (.dT kvs) ∧ y = .ref b ∧ H b = some (.tup (k.map kV)) ∧ kvs.length < sizeLine ∧ H' = upd H a (.dT (putK kvs k v))
theorem DGet.k {H : Hp} {a : Addr} {kvs : List (Key × V)} {k : Key} (e : H a = some (.dK kvs)) : DGet H a (kV k) (valV kvs k) := .inl ⟨kvs, k, .inl e, rfl, rfl⟩
theorem DGet.t {H : Hp} {a b : Addr} {kvs : List (List Key × V)} {k : List Key} (e : H a = some (.dT kvs)) (eb : H b = some (.tup (k.map kV))) : DGet H a (.ref b) (valV kvs k) := .inr ⟨kvs, k, b, .inl e, rfl, eb, rfl⟩
theorem DPut.k {H : Hp} {a : Addr} {kvs : List (Key × V)} {k : Key} {v : V} (e : H a = some (.dK kvs)) (hl : kvs.length < sizeLine) : DPut H a (kV k) v (upd H a (.dK (putK kvs k v))) := .inl ⟨kvs, k, e, rfl, hl, rfl⟩
theorem DPut.t {H : Hp} {a b : Addr} {kvs : List (List Key × V)} {k : List Key} {v : V} (e : H a = some (.dT kvs)) (eb : H b = some (.tup (k.map kV))) (hl : kvs.length < sizeLine) :
    DPut H a (.ref b) v (upd H a (.dT (putK kvs k v))) := .inr ⟨kvs, k, b, e, rfl, eb, hl, rfl⟩


section
variable {X : Cx} {pins : List (Addr × Obj)} {σ : St} {H : Hp} {s : Shared} {a : Addr} {y v : V} {u r : Value} {o : Option V} {A : Around} {E : Value → Shared → Prop}


end

section
variable {X : Cx} {pins : List (Addr × Obj)} {σ : St} {H : Hp} {s : Shared} {a : Addr} {kvs : List (Key × V)} {k : Key} {u : Value} {A : Around} {E : Value → Shared → Prop}
end


/-! ### readings and rules -/



section
variable {X : Cx} {o i e value : Expr} {pos pos' tpos : Pos} {td ty tv : TE}
end


/-! ### displays -/
section
variable {X : Cx} {pos : Pos}
end




/-! ### methods -/
/-- a method call o.m(e) of a built-in, with one argument: what must be seen of the text -/
structure M1 (X : Cx) (o : Expr) (m : Str) (apos : Pos) (e : Expr) (cpos : Pos) : Prop where
  base : attributeBase o m X.env (eval o X.env) = eval o X.env
  few : ((backTo cpos (starEach [e] X.env)).all (fun x => !x.1) && (backToKw cpos (keywordEach [] X.env)).all (fun x => x.1.isSome)
    && decide (([e] : List Expr).length + ([] : List Keyword).length + (if ([] : List Keyword).isEmpty then 0 else 1) < 30)) = true
  line : (apos.endLine == cpos.line) = true
  trees : backTo cpos (starEach [e] X.env) = [(false, eval e X.env)]
structure M2 (X : Cx) (o : Expr) (m : Str) (apos : Pos) (e f : Expr) (cpos : Pos) : Prop where
  base : attributeBase o m X.env (eval o X.env) = eval o X.env
  few : ((backTo cpos (starEach [e, f] X.env)).all (fun x => !x.1) && (backToKw cpos (keywordEach [] X.env)).all (fun x => x.1.isSome)
    && decide (([e, f] : List Expr).length + ([] : List Keyword).length + (if ([] : List Keyword).isEmpty then 0 else 1) < 30)) = true
  line : (apos.endLine == cpos.line) = true
  trees : backTo cpos (starEach [e, f] X.env) = [(false, eval e X.env), (false, eval f X.env)]


section
variable {X : Cx} {pins : List (Addr × Obj)} {σ : St} {H : Hp} {s : Shared} {a : Addr} {y d : V} {u r : Value} {o : Option V} {A : Around} {E : Value → Shared → Prop}
end

section
variable {X : Cx} {o e f : Expr} {apos cpos : Pos} {td ty tx : TE}
end

/-! ### dict(d): a copy -/
section
variable {X : Cx} {pins : List (Addr × Obj)} {σ : St} {H : Hp} {s : Shared} {a : Addr} {kvs : List (Key × V)} {A : Around} {E : Value → Shared → Prop}
end


section
variable {X : Cx} {pins : List (Addr × Obj)} {σ : St} {H : Hp} {s : Shared} {a : Addr} {y : V} {u : Value} {A : Around} {E : Value → Shared → Prop}
end
end L2

/-! ### E1: list comprehensions over the hand layer -/
namespace L2
open PySem PySem.Spec PyProof.Rows

/-- the cells that a comprehension's block takes from around -/
def closL (cells : List (Str × Addr)) : List (Str × NameKind) → List (Str × Addr) → List (Str × Addr)
  | [], acc => acc
  | (n, k) :: r, acc => if k == .free then closL cells r ((n, (cells.lookup n).getD 0) :: acc) else closL cells r acc

theorem closL_forIn {env : Env} (f : Str × NameKind → List (Str × Addr) → Sem (ForInStep (List (Str × Addr))))
    (hf : ∀ n k cs, f (n, k) cs = if k == .free then (do let a ← cellOf env n; pure (.yield ((n, a) :: cs))) else pure (.yield cs)) :
    ∀ (names : List (Str × NameKind)) (acc : List (Str × Addr)), (∀ n, (n, NameKind.free) ∈ names → ∃ c, env.cells.lookup n = some c) → forIn names acc f = pure (closL env.cells names acc)
  | [], acc, _ => by rw [List.forIn_nil]; rfl
  | (n, k) :: r, acc, h => by
    have hr := closL_forIn f hf r
    rw [List.forIn_cons, hf]
    unfold closL
    by_cases hk : (k == NameKind.free) = true
    · rw [if_pos hk, if_pos hk]
      have ek : k = .free := eq_of_beq hk
      subst ek
      obtain ⟨c, e⟩ := h n List.mem_cons_self
      have e1 : cellOf env n = pure c := by unfold cellOf; rw [e]
      rw [e1, e]
      exact hr _ fun m hm => h m (List.mem_cons_of_mem _ hm)
    · rw [if_neg hk, if_neg hk]
      exact hr _ fun m hm => h m (List.mem_cons_of_mem _ hm)

theorem closureFor_closL {scope : Scope} {env : Env} (h : ∀ n, (n, NameKind.free) ∈ scope.names → ∃ c, env.cells.lookup n = some c) : closureFor scope env = pure (closL env.cells scope.names []) := by
  simp only [closureFor]
  rw [closL_forIn _ (fun n k cs => by cases hkc : k == NameKind.free <;> simp [hkc]) scope.names [] h]
  rfl

theorem closL_mem {cells : List (Str × Addr)} : ∀ (names : List (Str × NameKind)) (acc : List (Str × Addr)) {x : Str} {c : Addr}, (x, c) ∈ closL cells names acc → (x, c) ∈ acc ∨ ((x, NameKind.free) ∈ names ∧ c = (cells.lookup x).getD 0)
  | [], _, _, _, h => .inl h
  | (n, k) :: r, acc, x, c, h => by
    unfold closL at h
    by_cases hk : (k == NameKind.free) = true
    · rw [if_pos hk] at h
      have ek : k = .free := eq_of_beq hk
      subst ek
      rcases closL_mem r _ h with z | ⟨z1, z2⟩
      · rcases List.mem_cons.mp z with q | q
        · cases q
          exact .inr ⟨List.mem_cons_self, rfl⟩
        · exact .inl q
      · exact .inr ⟨List.mem_cons_of_mem _ z1, z2⟩
    · rw [if_neg hk] at h
      rcases closL_mem r _ h with z | ⟨z1, z2⟩
      · exact .inl z
      · exact .inr ⟨List.mem_cons_of_mem _ z1, z2⟩

theorem lookup_some_of_mem {α : Type} {x : Str} {c : α} : ∀ {l : List (Str × α)}, (x, c) ∈ l → (l.lookup x).isSome = true
  | (n, d) :: r, h => by
    rw [List.lookup_cons]
    cases hb : x == n with
    | true => rfl
    | false =>
      rcases List.mem_cons.mp h with q | q
      · cases q
        simp at hb
      · exact lookup_some_of_mem q

theorem closL_has {cells : List (Str × Addr)} {x : Str} : ∀ (names : List (Str × NameKind)) (acc : List (Str × Addr)), (x, NameKind.free) ∈ names ∨ (∃ c, (x, c) ∈ acc) → ∃ c, (x, c) ∈ closL cells names acc
  | [], _, h => h.elim (fun z => nomatch z) id
  | (n, k) :: r, acc, h => by
    unfold closL
    by_cases hk : (k == NameKind.free) = true
    · rw [if_pos hk]
      refine closL_has r _ ?_
      rcases h with z | ⟨c, z⟩
      · rcases List.mem_cons.mp z with q | q
        · cases q
          exact .inr ⟨_, List.mem_cons_self⟩
        · exact .inl q
      · exact .inr ⟨c, List.mem_cons_of_mem _ z⟩
    · rw [if_neg hk]
      refine closL_has r _ ?_
      rcases h with z | z
      · rcases List.mem_cons.mp z with q | q
        · cases q
          exact absurd (by rfl) hk
        · exact .inl q
      · exact .inr z

theorem cellsFrom_mem : ∀ (names : List (Str × NameKind)) (h : Heap) (acc : List (Str × Addr)) {x : Str} {c : Addr}, (x, c) ∈ cellsFrom h.objs.size names acc →
    (x, c) ∈ acc ∨ ((x, NameKind.cell) ∈ names ∧ h.objs.size ≤ c ∧ (pushCells h names).IsCell c none)
  | [], _, _, _, _, hm => .inl hm
  | (n, k) :: r, h, acc, x, c, hm => by
    unfold cellsFrom at hm
    unfold pushCells
    by_cases hk : (k == NameKind.cell) = true
    · rw [if_pos hk] at hm
      rw [if_pos hk]
      have ek : k = .cell := eq_of_beq hk
      subst ek
      have e : (h.push { cls := .type "cell", data := .cell none }).objs.size = h.objs.size + 1 := Heap.size_push ..
      rw [← e] at hm
      rcases cellsFrom_mem r _ _ hm with z | ⟨z1, z2, z3⟩
      · rcases List.mem_cons.mp z with q | q
        · cases q
          exact .inr ⟨List.mem_cons_self, Nat.le_refl _, ⟨_, pushCells_keeps r _ _ _ (Heap.get?_push_size _ rfl), rfl⟩⟩
        · exact .inl q
      · exact .inr ⟨List.mem_cons_of_mem _ z1, by omega, z3⟩
    · rw [if_neg hk] at hm
      rw [if_neg hk]
      rcases cellsFrom_mem r h acc hm with z | ⟨z1, z2, z3⟩
      · exact .inl z
      · exact .inr ⟨List.mem_cons_of_mem _ z1, z2, z3⟩

theorem cellsFrom_has {x : Str} : ∀ (names : List (Str × NameKind)) (n : Nat) (acc : List (Str × Addr)), (x, NameKind.cell) ∈ names ∨ (∃ c, (x, c) ∈ acc) → ∃ c, (x, c) ∈ cellsFrom n names acc
  | [], _, _, h => h.elim (fun z => nomatch z) id
  | (y, k) :: r, n, acc, h => by
    unfold cellsFrom
    by_cases hk : (k == NameKind.cell) = true
    · rw [if_pos hk]
      refine cellsFrom_has r _ _ ?_
      rcases h with z | ⟨c, z⟩
      · rcases List.mem_cons.mp z with q | q
        · cases q
          exact .inr ⟨_, List.mem_cons_self⟩
        · exact .inl q
      · exact .inr ⟨c, List.mem_cons_of_mem _ z⟩
    · rw [if_neg hk]
      refine cellsFrom_has r _ _ ?_
      rcases h with z | z
      · rcases List.mem_cons.mp z with q | q
        · cases q
          exact absurd (by rfl) hk
        · exact .inl q
      · exact .inr z

theorem cellsFrom_inj (lo : Nat) : ∀ (names : List (Str × NameKind)) (n : Nat) (acc : List (Str × Addr)), (∀ x y c, (x, c) ∈ acc → (y, c) ∈ acc → lo ≤ c → x = y) → (∀ p ∈ acc, p.2 < n) →
    ∀ x y c, (x, c) ∈ cellsFrom n names acc → (y, c) ∈ cellsFrom n names acc → lo ≤ c → x = y
  | [], _, _, h, _ => h
  | (m, k) :: r, n, acc, h, hb => by
    unfold cellsFrom
    by_cases hk : (k == NameKind.cell) = true
    · rw [if_pos hk]
      refine cellsFrom_inj lo r (n + 1) ((m, n) :: acc) (fun x y c hx hy hc => ?_) fun p hp => ?_
      · rcases List.mem_cons.mp hx with q | q <;> rcases List.mem_cons.mp hy with q' | q'
        · cases q; cases q'; rfl
        · cases q
          exact absurd (hb _ q') (Nat.lt_irrefl _)
        · cases q'
          exact absurd (hb _ q) (Nat.lt_irrefl _)
        · exact h x y c q q' hc
      · rcases List.mem_cons.mp hp with q | q
        · cases q; exact Nat.lt_succ_self _
        · exact Nat.lt_succ_of_lt (hb p q)
    · rw [if_neg hk]
      exact cellsFrom_inj lo r n acc h hb

/-- a name's kind within the block -/
theorem lookup_relabel (env : Env) (x : Str) : ∀ names : List (Str × NameKind),
    (names.map fun (n, k) => if (k == NameKind.free && env.scope.kind == .function && env.kindOf n == some .cell) then (n, NameKind.cell) else (n, k)).lookup x =
      (names.lookup x).map fun k => if (k == NameKind.free && env.scope.kind == .function && env.kindOf x == some .cell) then NameKind.cell else k
  | [] => rfl
  | (n, k) :: r => by
    have ih := lookup_relabel env x r
    show List.lookup x ((if (k == NameKind.free && env.scope.kind == .function && env.kindOf n == some .cell) = true then (n, NameKind.cell) else (n, k)) :: _) = _
    cases hx : x == n with
    | true =>
      have e := eq_of_beq hx
      subst e
      by_cases hc : (k == NameKind.free && env.scope.kind == .function && env.kindOf x == some .cell) = true
      · rw [if_pos hc]
        simp only [List.lookup_cons, beq_self_eq_true, Option.map_some, hc, if_true]
      · rw [if_neg hc]
        simp only [List.lookup_cons, beq_self_eq_true, Option.map_some]
        rw [if_neg hc]
    | false =>
      by_cases hc : (k == NameKind.free && env.scope.kind == .function && env.kindOf n == some .cell) = true
      · rw [if_pos hc]; simp only [List.lookup_cons, hx]; exact ih
      · rw [if_neg hc]; simp only [List.lookup_cons, hx]; exact ih

theorem wpAny_newFunctionEnv_comp {M : Model} {A : Around} {E : Value → Shared → Prop} {s : Shared} {scope : Scope} {globals : Addr} {closure : List (Str × Addr)} {qual : Str} {env : Env} {Q : Env → Shared → Prop}
    (hQ : Q (newEnv scope s.heap.objs.size globals (cellsFrom (s.heap.objs.size + 1) scope.names closure) qual none .none (some env) builtinsNs)
      { s with heap := pushCells (s.heap.push { cls := .type "dict", data := .dict #[] }) scope.names }) :
    wpAny M A (newFunctionEnv scope globals closure [] qual none .none (some env)) Q E s := by
  simp only [newFunctionEnv, Option.isSome_some, if_true]
  refine wpAny_bind (wpAny_alloc ?_)
  refine wpAny_bind (wpAny_layCells _ (fun name kind cells => by cases hkc : kind == NameKind.cell <;> simp [hkc]) _ _ _ _ ?_)
  rw [show ({ s with heap := s.heap.push { cls := .type "dict", data := .dict #[] } } : Shared).heap.objs.size = s.heap.objs.size + 1 from Heap.size_push ..]
  refine wpAny_bind ?_
  rw [List.forIn_nil]
  exact wpAny_pure (wpAny_pure hQ)

/-! ### the block's context -/
/-- which names of around are taken; each slot of around is taken under its own name, or not seen -/
def capOk (out names : List (Str × NameKind)) : Bool := names.all fun p => !(decide (p.2 = NameKind.free)) || (decide (out.lookup p.1 = some NameKind.cell) || decide (out.lookup p.1 = some NameKind.free))
def nmOk (N N' : List Str) (names : List (Str × NameKind)) : Bool := (List.range N.length).all fun i => match N'[i]? with
  | some y => decide (names.lookup y = none) || (decide (names.lookup y = some NameKind.free) && decide (N[i]? = some y))
  | none => false
structure CompScope (N : List Str) (out : List (Str × NameKind)) (N' : List Str) (k : Nat) (sc : Scope) : Prop where
  kind : sc.kind = .function
  len : N'.length = N.length + k
  cap : capOk out sc.names = true
  nm : nmOk N N' sc.names = true
  uniq : sc.names.all (fun p => decide (sc.names.lookup p.1 = some p.2)) = true

def cxComp (X : Cx) (N' : List Str) (sc : Scope) (s : Shared) (H : Hp) (fp : List Addr) (pins : List (Addr × Obj)) (E : Value → Shared → Prop) : Cx where
  prog := X.prog
  w := X.w
  K := X.K
  mg := X.mg
  base := X.base
  A := X.A
  N := N'
  s₀ := s
  H₀ := H
  env := compEnvC sc (cellsFrom (s.heap.objs.size + 1) sc.names (closL X.env.cells sc.names [])) s.heap.objs.size X.env
  outer := X.stack
  stack := X.stack
  ex := fp
  fn := fun x => decide (sc.names.lookup x = some .cell)
  calm := X.calm
  pn := X.pn ++ pins
  xe := E

section
variable {X : Cx} {N' : List Str} {k : Nat} {sc : Scope} {pins : List (Addr × Obj)} {σ : St} {H : Hp} {s : Shared} {fp : List Addr} {E : Value → Shared → Prop}

theorem CompScope.fr (S : CompScope X.N X.env.scope.names N' k sc) {x : Str} (h : (x, NameKind.free) ∈ sc.names) : X.env.kindOf x = some .cell ∨ X.env.kindOf x = some .free := by
  have q := List.all_eq_true.mp S.cap _ h
  simp at q
  exact q
theorem CompScope.look {N : List Str} {out : List (Str × NameKind)} (S : CompScope N out N' k sc) {x : Str} {kd : NameKind} (h : (x, kd) ∈ sc.names) : sc.names.lookup x = some kd := by
  have q := List.all_eq_true.mp S.uniq _ h
  exact of_decide_eq_true q

theorem comp_inv (S : CompScope X.N X.env.scope.names N' k sc) (I : Inv X pins σ H s) (hf : ∀ b ∈ fp, FpOk X pins H b) (hlt : ∀ b ∈ fp, b < s.heap.objs.size) :
    Inv (cxComp X N' sc s H fp pins E) [] (σ ++ List.replicate k none) H { s with heap := pushCells (s.heap.push { cls := .type "dict", data := .dict #[] }) sc.names } := by
  have keeps : ∀ b o, s.heap.get? b = some o → (pushCells (s.heap.push { cls := .type "dict", data := .dict #[] }) sc.names).get? b = some o := fun b o e => pushCells_keeps _ _ _ _ (Heap.get?_push_of_some _ e)
  have hsz : (s.heap.push { cls := .type "dict", data := .dict #[] }).objs.size = s.heap.objs.size + 1 := Heap.size_push ..
  have hns : (pushCells (s.heap.push { cls := .type "dict", data := .dict #[] }) sc.names).Ns s.heap.objs.size (fun _ => none) := (Heap.Ns.new s.heap (.type "dict")).keeps (pushCells_keeps _ _)
  have frc : ∀ x, (x, NameKind.free) ∈ sc.names → ∃ c, X.env.cells.lookup x = some c := fun x h => I.ok.has x (S.fr h)
  -- what a cell of the block is
  have cm : ∀ x c, (x, c) ∈ cellsFrom (s.heap.objs.size + 1) sc.names (closL X.env.cells sc.names []) →
      ((x, NameKind.cell) ∈ sc.names ∧ s.heap.objs.size + 1 ≤ c ∧ (pushCells (s.heap.push { cls := .type "dict", data := .dict #[] }) sc.names).IsCell c none) ∨ ((x, NameKind.free) ∈ sc.names ∧ X.env.cells.lookup x = some c) := fun x c h => by
    rw [← hsz] at h
    rcases cellsFrom_mem _ _ _ h with z | ⟨z1, z2, z3⟩
    · rcases closL_mem _ _ z with z | ⟨z1, z2⟩
      · exact nomatch z
      · obtain ⟨c', e⟩ := frc x z1
        rw [e] at z2
        cases z2
        exact .inr ⟨z1, e⟩
    · exact .inl ⟨z1, by omega, z3⟩
  have cl : ∀ x c, (cellsFrom (s.heap.objs.size + 1) sc.names (closL X.env.cells sc.names [])).lookup x = some c → (x, c) ∈ cellsFrom (s.heap.objs.size + 1) sc.names (closL X.env.cells sc.names []) := fun x c h => PySem.mem_of_lookup h
  have clt : ∀ x c, X.env.cells.lookup x = some c → c < s.heap.objs.size := fun x c h => by
    obtain ⟨v, q⟩ := I.cell x c h
    exact q.lt
  have has : ∀ x, (x, NameKind.cell) ∈ sc.names ∨ (x, NameKind.free) ∈ sc.names → ∃ c, (cellsFrom (s.heap.objs.size + 1) sc.names (closL X.env.cells sc.names [])).lookup x = some c := fun x h => by
    obtain ⟨c, hc⟩ := cellsFrom_has (x := x) sc.names (s.heap.objs.size + 1) (closL X.env.cells sc.names []) (h.imp id fun z => closL_has _ _ (.inl z))
    exact Option.isSome_iff_exists.mp (lookup_some_of_mem hc)
  have kd : ∀ x kk, (relabel sc X.env).names.lookup x = some kk → ∃ k0, sc.names.lookup x = some k0 ∧ (kk = k0 ∨ (k0 = .free ∧ kk = .cell)) := fun x kk h => by
    have q := lookup_relabel X.env x sc.names
    have h' : (sc.names.map fun (n, k) => if (k == NameKind.free && X.env.scope.kind == .function && X.env.kindOf n == some .cell) then (n, NameKind.cell) else (n, k)).lookup x = some kk := h
    rw [q] at h'
    cases e : sc.names.lookup x with
    | none => rw [e] at h'; cases h'
    | some k0 =>
      rw [e] at h'
      simp only [Option.map_some, Option.some.injEq] at h'
      refine ⟨k0, rfl, ?_⟩
      split at h'
      · rename_i hc
        simp at hc
        exact .inr ⟨hc.1.1, h'.symm⟩
      · exact .inl h'.symm
  refine ⟨⟨I.ok.mod, S.kind, I.ok.glob, I.ok.blt, Nat.le_refl _, ?inj, ?has, ?cab, I.ok.hd, I.ok.frames, .inl rfl, ?exf, I.bs, Nat.le_trans I.ok.bsz I.sz, ?noex, ?exfs, I.stack, I.stkFree⟩,
    rfl, I.bare, Un.kept keeps, ⟨_, hns, ?loc⟩, ?cell, I.hok.fresh (Nat.le_refl _), ?freeC, ?pin, I.hok.kept keeps, ?len⟩
  case inj =>
    intro x y c h1 h2
    rcases cm x c (cl x c h1) with ⟨_, l1, _⟩ | ⟨m1, e1⟩
    · rcases cm y c (cl y c h2) with ⟨_, l2, _⟩ | ⟨m2, e2⟩
      · refine cellsFrom_inj (s.heap.objs.size + 1) sc.names (s.heap.objs.size + 1) (closL X.env.cells sc.names []) (fun x y c hx _ hc => ?_) (fun p hp => ?_) x y c (cl x c h1) (cl y c h2) l1
        · rcases closL_mem _ _ hx with z | ⟨z1, z2⟩
          · exact nomatch z
          · obtain ⟨c', e⟩ := frc x z1
            rw [e] at z2
            have z3 : c = c' := z2
            subst z3
            exact absurd (clt x c e) (Nat.not_lt.mpr (Nat.le_of_succ_le hc))
        · obtain ⟨x, c⟩ := p
          rcases closL_mem _ _ hp with z | ⟨z1, z2⟩
          · exact nomatch z
          · obtain ⟨c', e⟩ := frc x z1
            rw [e] at z2
            have z3 : c = c' := z2
            subst z3
            exact Nat.lt_succ_of_lt (clt x c e)
      · exact absurd (clt y c e2) (Nat.not_lt.mpr (Nat.le_of_succ_le l1))
    · rcases cm y c (cl y c h2) with ⟨_, l2, _⟩ | ⟨m2, e2⟩
      · exact absurd (clt x c e1) (Nat.not_lt.mpr (Nat.le_of_succ_le l2))
      · exact I.ok.inj x y c e1 e2
  case has =>
    intro x hx
    refine has x ?_
    rcases hx with hx | hx
    · obtain ⟨k0, e, h⟩ := kd x _ hx
      rcases h with h | ⟨h, _⟩
      · subst h; exact .inl (PySem.mem_of_lookup e)
      · subst h; exact .inr (PySem.mem_of_lookup e)
    · obtain ⟨k0, e, h⟩ := kd x _ hx
      rcases h with h | ⟨_, h⟩
      · subst h; exact .inr (PySem.mem_of_lookup e)
      · cases h
  case cab =>
    intro x c hfn h
    have hfn' : sc.names.lookup x = some NameKind.cell := of_decide_eq_true hfn
    rcases cm x c (cl x c h) with ⟨_, l, _⟩ | ⟨m, _⟩
    · exact Nat.le_of_succ_le l
    · rw [S.look m] at hfn'; cases hfn'
  case exf =>
    intro b hb
    refine ⟨Nat.ne_of_lt (hlt b hb), fun x c h => ?_⟩
    rcases cm x c (cl x c h) with ⟨_, l, _⟩ | ⟨_, e⟩
    · intro z
      subst z
      exact absurd (hlt c hb) (Nat.not_lt.mpr (Nat.le_of_succ_le l))
    · exact (hf b hb).2.2.2.2.1 x c e
  case noex =>
    intro b o e hb
    rcases (hf b hb).2.2.2.1 with z | z
    · exact I.ok.noex b o e z
    · exact absurd (Nat.lt_of_lt_of_le (Heap.lt_size e) (Nat.le_trans I.ok.bsz z)) (Nat.lt_irrefl _)
  case exfs => exact fun b hb z => (List.mem_cons.mp (I.stkSub b z)).elim (hf b hb).2.1 (hf b hb).2.2.1
  case loc =>
    intro i y v h1 h2 h3
    have hl := I.len
    by_cases hi : i < σ.length
    · rw [List.getElem?_append_left hi] at h2
      have q := List.all_eq_true.mp S.nm i (List.mem_range.mpr (by omega))
      have h1' : N'[i]? = some y := h1
      simp only [h1', Bool.or_eq_true, Bool.and_eq_true, decide_eq_true_eq] at q
      rcases q with q | ⟨q1, q2⟩
      · exfalso
        rcases h3 with z | z | z <;> (obtain ⟨k0, e, _⟩ := kd y _ z; rw [q] at e; cases e)
      · have hm := PySem.mem_of_lookup q1
        obtain ⟨m, hn, hloc⟩ := I.loc
        have kk := S.fr hm
        obtain ⟨u, r, l⟩ := hloc i y v q2 h2 (kk.elim (fun z => .inr (.inl z)) fun z => .inr (.inr z))
        refine ⟨u, r, .inr ⟨?_, ?_⟩⟩
        · rcases h3 with z | z | z
          · obtain ⟨k0, e, h⟩ := kd y _ z
            rw [q1] at e
            cases e
            rcases h with h | ⟨_, h⟩ <;> cases h
          · exact .inl z
          · exact .inr z
        · rcases l with ⟨l, _⟩ | ⟨_, c, ec, hc⟩
          · rcases kk with z | z <;> (rw [z] at l; cases l)
          · obtain ⟨c', e'⟩ := has y (.inr hm)
            refine ⟨c', e', ?_⟩
            rcases cm y c' (cl y c' e') with ⟨m', _⟩ | ⟨_, e2⟩
            · have := S.look m'
              rw [q1] at this
              cases this
            · rw [ec] at e2
              cases e2
              exact hc.keeps keeps
    · rw [List.getElem?_append_right (by omega), List.getElem?_replicate] at h2
      split at h2 <;> cases h2
  case cell =>
    intro x c h
    rcases cm x c (cl x c h) with ⟨_, _, q⟩ | ⟨_, e⟩
    · exact ⟨_, q⟩
    · obtain ⟨v, q⟩ := I.cell x c e
      exact ⟨v, q.keeps keeps⟩
  case freeC =>
    intro x c h
    rcases cm x c (cl x c h) with ⟨_, l, _⟩ | ⟨_, e⟩
    · exact I.hok.fresh (Nat.le_of_succ_le l)
    · exact I.freeC x c e
  case pin =>
    intro p hp
    have hp' : p ∈ X.pn ++ pins := by
      rcases List.mem_append.mp hp with z | z
      · exact z
      · exact nomatch z
    obtain ⟨e, n, ne, nf, d⟩ := I.pin p hp'
    exact ⟨keeps _ _ e, n, Nat.ne_of_lt (Heap.lt_size e), fun z => (List.mem_cons.mp (I.stkSub p.1 z)).elim ne nf, d⟩
  case len =>
    show _ = N'.length
    rw [List.length_append, List.length_replicate, S.len, I.len]

/-- behind the block -/
theorem comp_exit {σ' : St} {H' : Hp} {s' : Shared} (I : Inv X pins σ H s) (hf : ∀ b ∈ fp, FpOk X pins H b) (J : Inv (cxComp X N' sc s H fp pins E) [] σ' H' s') : Inv X pins σ H' s' :=
  I.call' J.os J.base J.hok J.bare fun b hb => ⟨(hf b hb).2.2.2.1, (hf b hb).2.1, (hf b hb).2.2.2.2.1, (hf b hb).2.2.2.2.2⟩
/-- the block's names are let go -/
theorem comp_gone {H' : Hp} {s' : Shared} {h' : Heap} (I : Inv X pins σ H s) (J : Inv X pins σ H' s') (hn : H' s.heap.objs.size = none) (hb : Heap.SameBut s.heap.objs.size s'.heap h') : Inv X pins σ H' { s' with heap := h' } := by
  refine J.turned (t' := s'.toks) (it := s.heap.objs.size) (fun b o hne e => (hb.2 b hne).trans e) hn (Nat.ne_of_gt I.lt) (.inr I.sz) (fun x c e => ?_) fun p hp => ?_
  · obtain ⟨v, q⟩ := I.cell x c e
    exact Nat.ne_of_lt q.lt
  · exact Nat.ne_of_lt (Heap.lt_size (I.pin p hp).1)
end

/-! ### the loop -/
theorem compLoop_any {prog : Program} {w : World} {A : Around} {R : Result → Shared → Prop} {s : Shared} {elt target iter : Expr} {ifs : List Expr} {scope : Scope} {pos : Pos} {it acc : Value} {env : Env} (I : Nat → Shared → Prop)
    (turn : ∀ n s, I n s → wpAny (model prog w) A (pyNext it) (fun r s₁ => match r with
      | none => R (.ok .next) s₁
      | some v => wpAny (model prog w) A (letOwnedTupleGo target it v) (fun _ s₁' => wpAny (model prog w) A (assign target env v) (fun _ s₂ =>
          wpAny (model prog w) A (forIn ifs true fun c r => if r = true then do let ok ← isTrue c env (eval c env); pure (ForInStep.yield ok) else pure (ForInStep.yield r)) (fun ok s₃ =>
            if ok = true then wpAny (model prog w) A (eval elt env) (fun x s₄ =>
              wpAny (model prog w) A (call (.builtin "list.append") [acc, x]) (fun _ s₅ => ∃ m, m < n ∧ I m s₅) (notedBy (model prog w) A env fun e s' => R (.error e) s') s₄) (notedBy (model prog w) A env fun e s' => R (.error e) s') s₃
            else ∃ m, m < n ∧ I m s₃) (notedBy (model prog w) A env fun e s' => R (.error e) s') s₂) (notedBy (model prog w) A env fun e s' => R (.error e) s') s₁') (notedBy (model prog w) A env fun e s' => R (.error e) s') s₁) (notedBy (model prog w) A env fun e s' => R (.error e) s') s)
    (n : Nat) (h : I n s) :
    codeAny (model prog w) A (.compLoop (.ListComp elt [⟨target, iter, ifs, 0⟩] scope pos) 0 it acc env) R s := by
  refine codeAny_loop rfl I (fun n s hI => ?_) n h
  show wpAny _ A ((compTurn (.ListComp elt [⟨target, iter, ifs, 0⟩] scope pos) 0 it acc env).onRaise (fun x => do noteFrame x env; theTreesLotGoes x)) _ _ s
  refine wpAny_noted ?_
  rw [compTurn_list]
  refine wpAny_bind (wpAny_standAt (wpAny_bind (wpAny_mono (turn n s hI) (fun r s₁ h₁ => ?_) fun _ _ h' => h')))
  cases r with
  | none => exact wpAny_pure h₁
  | some v =>
    refine wpAny_bind (wpAny_mono h₁ (fun _ s₁' h₁' => ?_) fun _ _ h' => h')
    refine wpAny_bind (wpAny_mono h₁' (fun _ s₂ h₂ => wpAny_bind (wpAny_mono h₂ (fun ok s₃ h₃ => ?_) fun _ _ h' => h')) fun _ _ h' => h')
    cases ok with
    | false => exact wpAny_pure ⟨rfl, h₃⟩
    | true =>
      exact wpAny_bind (wpAny_bind (wpAny_mono h₃ (fun x s₄ h₄ => wpAny_bind (wpAny_mono h₄ (fun _ s₅ h₅ => wpAny_pure (wpAny_pure ⟨rfl, h₅⟩)) fun _ _ h' => h')) fun _ _ h' => h'))

/-- the tests of a clause -/
def PIfs (X : Cx) (ifs : List Expr) (t : TT) : Prop :=
  ∀ (pins : List (Addr × Obj)) (s : Shared) (σ : St) (H : Hp) (Q : Bool → Hp → Prop), Inv X pins σ H s → t σ H Q →
    wpAny (model X.prog X.w) X.A (forIn ifs true fun c r => if r = true then do let ok ← isTrue c X.env (eval c X.env); pure (ForInStep.yield ok) else pure (ForInStep.yield r)) (TP X pins σ Q) X.xe s
def tYes : TT := fun _ H Q => Q true H
theorem pifs_nil {X : Cx} : PIfs X [] tYes := fun _ _ _ H _ I h => wpAny_tests_nil ⟨H, I, h⟩
theorem pifs_one {X : Cx} {c : Expr} {t : TT} (h : PT X c t) : PIfs X [c] t := fun pins s σ H Q I hw => wpAny_tests_one (h pins s σ H Q I hw)

/-- the reading of a comprehension: W is the invariant by the turn and a measure, the result grows at D -/
def tComp (wi : TI) (g : TG) (tc : TT) (te : TE) (k : Nat) : TE := fun σ H Q => wi σ H fun J H1 => ∀ D, H1 D = none →
  ∃ W : Nat → Nat → St → Hp → Prop, (∃ m, W 0 m (σ ++ List.replicate k none) (upd H1 D (.lst []))) ∧ ∀ i m σ' H', W i m σ' H' →
    (J.stop i H' ∧ Q (.ref D) H') ∨ (J.go i H' ∧ ∃ N : St → Hp → Prop, (∀ σ'' H'', N σ'' H'' → ∃ m', m' < m ∧ W (i + 1) m' σ'' H'') ∧
      ∀ x H2, J.yld i H' x H2 → g x σ' H2 fun σ2 H3 => tc σ2 H3 fun b H4 => if b = true then te σ2 H4 fun y H5 => ∃ ys, H5 D = some (.lst ys) ∧ ys.length < sizeLine ∧ N σ2 (upd H5 D (.lst (ys ++ [y]))) else N σ2 H4)

/-- the parts of a comprehension, in its block -/
structure PComp (X : Cx) (N' : List Str) (sc : Scope) (tg : Expr) (ifs : List Expr) (elt : Expr) (g : TG) (tc : TT) (te : TE) : Prop where
  pg : ∀ s H fp pins E, PG (cxComp X N' sc s H fp pins E) tg g
  pt : ∀ s H fp pins E, PIfs (cxComp X N' sc s H fp pins E) ifs tc
  pe : ∀ s H fp pins E, PE (cxComp X N' sc s H fp pins E) elt te

section
variable {X : Cx} {N' : List Str} {k : Nat} {sc : Scope} {tg iter elt : Expr} {ifs : List Expr} {pos : Pos} {g : TG} {tc : TT} {te : TE} {wi : TI}

theorem comp_block {pins : List (Addr × Obj)} {σ : St} {H : Hp} {s : Shared} {J : It} {fp : List Addr} {it : Addr} {tn : Nat → Heap → Prop} {Q : VK} {E : Value → Shared → Prop} {RR : Value → Addr → Result → Shared → Prop}
    (hc : X.calm = true) (S : CompScope X.N X.env.scope.names N' k sc) (P : PComp X N' sc tg ifs elt g tc te) (I : Inv X pins σ H s) (T : Turn X.prog X.w X.K tg J fp it tn) (st : tn 0 s.heap) (hf : ∀ b ∈ fp, FpOk X pins H b)
    (hW : ∀ D, H D = none → ∃ W : Nat → Nat → St → Hp → Prop, (∃ m, W 0 m (σ ++ List.replicate k none) (upd H D (.lst []))) ∧ ∀ i m σ' H', W i m σ' H' →
      (J.stop i H' ∧ Q (.ref D) H') ∨ (J.go i H' ∧ ∃ N : St → Hp → Prop, (∀ σ'' H'', N σ'' H'' → ∃ m', m' < m ∧ W (i + 1) m' σ'' H'') ∧
        ∀ x H2, J.yld i H' x H2 → g x σ' H2 fun σ2 H3 => tc σ2 H3 fun b H4 => if b = true then te σ2 H4 fun y H5 => ∃ ys, H5 D = some (.lst ys) ∧ ys.length < sizeLine ∧ N σ2 (upd H5 D (.lst (ys ++ [y]))) else N σ2 H4))
    (hR : ∀ D s3 H3 σ' H' s' E', Inv X pins σ H3 s3 → (∀ b ∈ fp, FpOk X pins H3 b) → Inv (cxComp X N' sc s3 H3 fp pins E') [] σ' H' s' → Q (.ref D) H' → RR (.ref D) s3.heap.objs.size (.ok .next) s') :
    wpAny (model X.prog X.w) X.A (newList []) (fun acc s₃ => wpAny (model X.prog X.w) X.A (newFunctionEnv sc X.env.globals (closL X.env.cells sc.names []) [] X.env.qual none .none (some X.env)) (fun cenv s₄ =>
      codeAny (model X.prog X.w) X.A (.compStart (.ListComp elt [⟨tg, iter, ifs, 0⟩] sc pos) 0 (.ref it) acc { cenv with scope := relabel sc X.env }) (RR acc cenv.locals) s₄) E s₃) E s := by
  obtain ⟨W, ⟨m0, w0⟩, step⟩ := hW s.heap.objs.size (I.hok.fresh (Nat.le_refl _))
  have I3 : Inv X pins σ (upd H s.heap.objs.size (.lst [])) { s with heap := s.heap.push { cls := .type "list", data := .seq ([] : List Value).toArray }, toks := s.toks } := I.lnew (t' := s.toks) .nil (Nat.zero_le _)
  have lt0 : ∀ b ∈ fp, b < s.heap.objs.size := fun b hb => by
    obtain ⟨o, e, _⟩ := T.obj 0 _ st b hb
    exact Heap.lt_size e
  have hf3 : ∀ b ∈ fp, FpOk X pins (upd H s.heap.objs.size (.lst [])) b := fun b hb => ⟨by rw [upd_ne (Nat.ne_of_lt (lt0 b hb))]; exact (hf b hb).1, (hf b hb).2⟩
  have lt3 : ∀ b ∈ fp, b < (s.heap.push { cls := .type "list", data := .seq ([] : List Value).toArray }).objs.size := fun b hb => by
    rw [Heap.size_push]
    exact Nat.lt_succ_of_lt (lt0 b hb)
  refine wpAny_newObj_type (wpAny_newFunctionEnv_comp ?_)
  generalize hs3 : ({ s with heap := s.heap.push { cls := .type "list", data := .seq ([] : List Value).toArray }, toks := s.toks } : Shared) = s3 at I3
  have hsh : s3.heap = s.heap.push { cls := .type "list", data := .seq ([] : List Value).toArray } := by rw [← hs3]
  rw [← hsh] at lt3
  have st3 : tn 0 s3.heap := T.keep _ _ _ st fun b _ o e => by rw [hsh]; exact Heap.get?_push_of_some _ e
  show codeAny _ _ (.compStart _ 0 (.ref it) (.ref s.heap.objs.size) (compEnvC sc (cellsFrom (s3.heap.objs.size + 1) sc.names (closL X.env.cells sc.names [])) s3.heap.objs.size X.env)) (RR (.ref s.heap.objs.size) s3.heap.objs.size)
    { s3 with heap := pushCells (s3.heap.push { cls := .type "dict", data := .dict #[] }) sc.names }
  generalize hD : s.heap.objs.size = D at *
  generalize hEn : (notedBy (model X.prog X.w) X.A (compEnvC sc (cellsFrom (s3.heap.objs.size + 1) sc.names (closL X.env.cells sc.names [])) s3.heap.objs.size X.env) fun e s' => RR (.ref D) s3.heap.objs.size (.error e) s') = En
  have I4 : Inv (cxComp X N' sc s3 (upd H D (.lst [])) fp pins En) [] (σ ++ List.replicate k none) (upd H D (.lst [])) { s3 with heap := pushCells (s3.heap.push { cls := .type "dict", data := .dict #[] }) sc.names } := comp_inv S I3 hf3 lt3
  have st4 : tn 0 (pushCells (s3.heap.push { cls := .type "dict", data := .dict #[] }) sc.names) := T.keep _ _ _ st3 fun b _ o e => pushCells_keeps _ _ _ _ (Heap.get?_push_of_some _ e)
  have stat : ∀ {H' : Hp}, (∀ b ∈ fp, H' b = none) → ∀ b ∈ fp, FpOk (cxComp X N' sc s3 (upd H D (.lst [])) fp pins En) [] H' b := fun hn b hb =>
    ⟨hn b hb, (I4.ok.exf b hb).1, I4.ok.exfs b hb, .inl hb, (I4.ok.exf b hb).2, fun p hp => (hf3 b hb).2.2.2.2.2 p (by
      rcases List.mem_append.mp hp with z | z
      · exact z
      · exact nomatch z)⟩
  have loop : codeAny (model X.prog X.w) X.A (.compLoop (.ListComp elt [⟨tg, iter, ifs, 0⟩] sc pos) 0 (.ref it) (.ref D) (cxComp X N' sc s3 (upd H D (.lst [])) fp pins En).env) (RR (.ref D) s3.heap.objs.size)
      { s3 with heap := pushCells (s3.heap.push { cls := .type "dict", data := .dict #[] }) sc.names } := by
    refine compLoop_any (fun n s' => ∃ i σ' H', Inv (cxComp X N' sc s3 (upd H D (.lst [])) fp pins En) [] σ' H' s' ∧ tn i s'.heap ∧ (∀ b ∈ fp, H' b = none) ∧ W i n σ' H') ?_ m0 ⟨0, _, _, I4, st4, fun b hb => (hf3 b hb).1, w0⟩
    have eEn : (notedBy (model X.prog X.w) X.A (cxComp X N' sc s3 (upd H D (.lst [])) fp pins En).env fun e s' => RR (.ref D) s3.heap.objs.size (.error e) s') = En := hEn
    rw [eEn]
    rintro n s5 ⟨i, σ5, H5, I5, st5, fr5, w5⟩
    rcases step i n σ5 H5 w5 with ⟨stop, qn⟩ | ⟨go, N, hN, turn⟩
    · refine thn (T.done (cxComp X N' sc s3 (upd H D (.lst [])) fp pins En) rfl rfl rfl hc i [] s5 σ5 H5 En I5 (stat fr5) st5 stop) fun r s6 ⟨hr, I6⟩ => ?_
      subst hr
      exact hR D s3 _ σ5 H5 s6 En I3 hf3 I6 qn
    · refine thn (T.item (cxComp X N' sc s3 (upd H D (.lst [])) fp pins En) rfl rfl rfl hc i [] s5 σ5 H5 En I5 (stat fr5) st5 go) fun r s6 ⟨u, hr, h6⟩ => ?_
      subst hr
      refine thn h6 fun _ s7 ⟨x, H7, I7, r7, y7, st7, fr7⟩ => ?_
      have I7' := I7.pinned (stat fr7) (T.obj _ _ st7)
      have back : ∀ {σ9 : St} {H9 : Hp} {s9 : Shared}, Inv (cxComp X N' sc s3 (upd H D (.lst [])) fp pins En) ([] ++ pinsAt fp s7.heap) σ9 H9 s9 → N σ9 H9 →
          ∃ m, m < n ∧ ∃ i σ' H', Inv (cxComp X N' sc s3 (upd H D (.lst [])) fp pins En) [] σ' H' s9 ∧ tn i s9.heap ∧ (∀ b ∈ fp, H' b = none) ∧ W i m σ' H' := fun {σ9 H9 s9} I9 n9 => by
        obtain ⟨m', hm, w9⟩ := hN σ9 H9 n9
        refine ⟨m', hm, i + 1, σ9, H9, I9.unpinned, T.keep _ _ _ st7 fun b hb o e => (I9.pin (b, o) (List.mem_append_right _ (List.mem_append_right _ (mem_pinsAt hb e)))).1, fun b hb => ?_, w9⟩
        obtain ⟨o, e, d⟩ := T.obj _ _ st7 b hb
        exact (I9.pin (b, o) (List.mem_append_right _ (List.mem_append_right _ (mem_pinsAt hb e)))).2.1
      refine thn (P.pg s3 _ fp pins En _ s7 σ5 H7 x u _ I7' r7 (turn x H7 y7)) fun _ s8 ⟨σ8, H8, I8, q8⟩ => ?_
      refine thn (P.pt s3 _ fp pins En _ s8 σ8 H8 _ I8 q8) fun ok s9 ⟨H9, I9, q9⟩ => ?_
      cases ok with
      | false =>
        rw [if_neg Bool.false_ne_true] at q9
        rw [if_neg Bool.false_ne_true]
        exact back I9 q9
      | true =>
        rw [if_pos rfl] at q9
        rw [if_pos rfl]
        refine thn (P.pe s3 _ fp pins En _ s9 σ8 H9 _ I9 q9) fun y s10 ⟨yv, H10, I10, r10, ys, hys, hl, q10⟩ => ?_
        refine thn (mt_append _ s10 σ8 H10 (.ref D) [yv] (.ref D) [y] (fun _ H' => N σ8 H') I10 rfl (.cons r10 .nil) ⟨D, ys, yv, rfl, rfl, hys, hl, q10⟩) fun _ s11 ⟨_, H11, I11, _, q11⟩ => ?_
        exact back I11 q11
  exact codeAny_compStart_list loop (T.self X.A 0 _ _ _ st4 loop)

theorem CompScope.names' {N : List Str} {out : List (Str × NameKind)} (S : CompScope N out N' k sc) : ∀ x ∈ sc.names, x.2 = .local → sc.names.lookup x.1 = some .local := fun x hx e => by
  obtain ⟨n, kd⟩ := x
  have e' : kd = .local := e
  subst e'
  exact S.look hx

theorem pe_comp (hc : X.calm = true) (S : CompScope X.N X.env.scope.names N' k sc) (hi : PI X tg iter wi) (P : PComp X N' sc tg ifs elt g tc te) (hs : ∀ x, foldedSetIterable iter X.env x = pure x := by intro _; rfl) :
    PE X (.ListComp elt [⟨tg, iter, ifs, 0⟩] sc pos) (tComp wi g tc te k) := by
  intro pins s σ H Q I h
  rw [eval_ListComp]
  refine wpAny_comprehension_free (use := none) rfl hs (closureFor_closL fun n hn => I.ok.has n (S.fr hn)) S.kind S.names' (thn (hi pins s σ H _ I h) fun v s1 h1 => thn h1 fun itv s2 h2 => ?_)
  obtain ⟨it, fp, tn, J, H2, e, I2, T, st2, f2, hW⟩ := h2
  subst e
  refine comp_block (Q := Q) (RR := fun acc C => compPost (model X.prog X.w) X.A X.xe none (EP X pins σ Q) acc C) hc S P I2 T st2 f2 hW ?_
  intro D s3 H3 σ' H' s' E' I3 f3 J' q
  obtain ⟨m, hn, _⟩ := J'.loc
  exact ⟨m, hn, fun h' hb => ⟨.ref D, H', comp_gone I3 (comp_exit I3 f3 J') J'.free hb, rfl, q⟩⟩

/-- name = [..], stored ahead of the block's end -/
theorem ps_setc {i : Nat} {y : Str} {py spos : Pos} (hc : X.calm = true) (S : CompScope X.N X.env.scope.names N' k sc) (hN : X.N.Nodup) (hy : X.N[i]? = some y) (hyl : X.env.scope.names.lookup y = some .local) (hi : PI X tg iter wi) (P : PComp X N' sc tg ifs elt g tc te)
    (hsw : swapsWith (.ListComp elt [⟨tg, iter, ifs, 0⟩] sc pos) (some (.Name y py)) spos.line X.env = pure true := by rfl) (hs : ∀ x, foldedSetIterable iter X.env x = pure x := by intro _; rfl) :
    PS X (.Assign [.Name y py] (.ListComp elt [⟨tg, iter, ifs, 0⟩] sc pos) spos) (tAsg (tComp wi g tc te k) (gName i)) := by
  intro pins s σ H D I h
  rw [exec_Assign_Name_used _ _ _ _ hsw]
  refine wpAny_bind (wpAny_standAt (wpAny_bind ?_))
  show wpAny _ X.A (do let _ ← comprehension (.ListComp elt [⟨tg, iter, ifs, 0⟩] sc pos) sc X.env _ (newList []) false (eval iter X.env) (some (assign (.Name y py) X.env))) _ _ s
  refine wpAny_bind (wpAny_mono (wpAny_comprehension_free (use := some (assign (.Name y py) X.env)) (Q := fun _ s' => SP X pins D .next s') rfl hs (closureFor_closL fun n hn => I.ok.has n (S.fr hn)) S.kind S.names'
    (thn (hi pins s σ H _ I h) fun v s1 h1 => thn h1 fun itv s2 h2 => ?_)) (fun _ s' hq => wpAny_pure (wpAny_pure hq)) fun _ _ e => e)
  obtain ⟨it, fp, tn, J, H2, e, I2, T, st2, f2, hW⟩ := h2
  subst e
  refine comp_block (Q := fun v H' => D.nx (σ.set i (some v)) H') (RR := fun acc C => compPost (model X.prog X.w) X.A X.xe (some (assign (.Name y py) X.env)) (fun _ s' => SP X pins D .next s') acc C) hc S P I2 T st2 f2 hW ?_
  intro a s3 H3 σ' H' s' E' I3 f3 J' q
  have J2 := comp_exit I3 f3 J'
  obtain ⟨m, hn, _⟩ := J'.loc
  show wpAny _ X.A (assign (.Name y py) X.env (.ref a)) _ _ _
  refine wpAny_assign_Name (store_ok2 J2 hN hy (.inl hyl) (v := .ref a) rfl (fun s4 I4 hsb => ?_) (.inr hyl))
  obtain ⟨b, hb, hb'⟩ := hsb
  have hne : b ≠ s3.heap.objs.size := by
    rcases hb' with z | z
    · rw [z]; exact Nat.ne_of_lt I3.lt
    · obtain ⟨v, w'⟩ := I3.cell y b z
      exact Nat.ne_of_lt w'.lt
  refine ⟨m, hn.sameBut hb (Ne.symm hne), fun h' hb2 => ⟨_, H', ?_, q⟩⟩
  have I3' : Inv X pins (σ.set i (some (.ref a))) H3 s3 ∨ True := .inr trivial
  refine I4.turned (t' := s4.toks) (it := s3.heap.objs.size) (fun b o hne e => (hb2.2 b hne).trans e) J'.free (Nat.ne_of_gt I3.lt) (.inr I3.sz) (fun x c e => ?_) fun p hp => ?_
  · obtain ⟨v, q⟩ := I3.cell x c e
    exact Nat.ne_of_lt q.lt
  · exact Nat.ne_of_lt (Heap.lt_size (I3.pin p hp).1)
end
end L2

/-! ### E2: values as trees, without the heap -/
namespace L2
open PySem PySem.Spec PyProof.Rows

inductive D where
  | non | bl (b : Bool) | int (i : Int) | str (x : Str) | lst (xs : List D) | tup (xs : List D) | scr (ns : List Int) | dct (ks : List Key) (xs : List D) | exc (x : Str)
/-- of the program's own class at C isinstance can be asked, and it is none of Python's plain ones -/
def xclsB (K : PySem.W.Frag) (C : Addr) : Bool := PySem.W.findIn K (.ref C) "__getattribute__" == some (some (.builtin "BaseException.__getattribute__")) && PySem.W.findIn K (.ref C) "__getattr__" == some none && PySem.W.mroIn K C (.type "BaseException") == some true && (PySem.W.clsIn K C).isSome && PySem.W.findIn K (.ref C) "__class__" == some (some (.builtin "object.__class__")) &&
  PySem.W.specialIn K (.builtin "object.__class__") "__get__" == some (some (.builtin "getset_descriptor.__get__")) && PySem.W.takesIn K (.builtin "object.__class__") == some true && PySem.W.mroIn K C (.type "object") == some true &&
  ["bool", "int", "str", "list", "tuple", "dict"].all fun T => PySem.W.kitOne K (.ref C) (.type T) == some false
/-- an exception of the class at C -/
def isX (a C : Addr) (h : Heap) : Prop := ∃ o, h.get? a = some o ∧ o.cls = .ref C ∧ o.dict = none ∧ PySem.W.notCls o = true

/-- a list that nobody changes: the script -/
def SqF (K : PySem.W.Frag) (H : Hp) (a : Addr) (xs : List V) : Prop :=
  (∃ o, H a = some (.frz o (.lst xs))) ∨ ∃ (o : Obj) (its : Array Value) (n : Nat), K.lookup a = some o ∧ o.cls = .type "list" ∧ o.dict = none ∧ o.data = .seq its n ∧ its.size ≤ sizeLine ∧ Vals xs its.toList
theorem SqF.sq {K : PySem.W.Frag} {H : Hp} {a : Addr} {xs : List V} (h : SqF K H a xs) : SqL K H a xs := h.elim (fun z => .inl (.inr z)) .inr
/- v stands for d at H, through no list or dict of B -/
mutual
def Rep (K : PySem.W.Frag) (H : Hp) (B : Addr → Prop) : D → V → Prop
  | .non, v => v = .non
  | .bl b, v => v = .bl b
  | .int i, v => v = .int i
  | .str x, v => v = .str x
  | .lst ds, v => ∃ a xs, v = .ref a ∧ ¬ B a ∧ H a = some (.lst xs) ∧ Reps K H B ds xs
  | .tup ds, v => ∃ a xs, v = .ref a ∧ SqT K H a xs ∧ Reps K H B ds xs
  | .scr ns, v => ∃ a, v = .ref a ∧ SqF K H a (ns.map V.int)
  | .dct ks ds, v => ∃ a kvs, v = .ref a ∧ ¬ B a ∧ H a = some (.dK kvs) ∧ kvs.map (·.1) = ks ∧ Reps K H B ds (kvs.map (·.2))
  | .exc x, v => ∃ a C, v = .ref a ∧ ¬ B a ∧ H a = some (.ext (isX a C)) ∧ PySem.W.nsIn K mainGlobals x = some (some (.ref C)) ∧ xclsB K C = true
def Reps (K : PySem.W.Frag) (H : Hp) (B : Addr → Prop) : List D → List V → Prop
  | [], xs => xs = []
  | d :: ds, xs => ∃ x r, xs = x :: r ∧ Rep K H B d x ∧ Reps K H B ds r
end
/- v is the tree d at H, its lists and dicts those of A, each held there -/
mutual
def Tree (K : PySem.W.Frag) (H : Hp) : D → V → List Addr → Prop
  | .non, v, A => v = .non ∧ A = []
  | .bl b, v, A => v = .bl b ∧ A = []
  | .int i, v, A => v = .int i ∧ A = []
  | .str x, v, A => v = .str x ∧ A = []
  | .lst ds, v, A => ∃ a xs B, v = .ref a ∧ H a = some (.lst xs) ∧ Trees K H ds xs B ∧ A = a :: B
  | .tup ds, v, A => ∃ a xs, v = .ref a ∧ SqT K H a xs ∧ Trees K H ds xs A
  | .scr ns, v, A => (∃ a, v = .ref a ∧ SqF K H a (ns.map V.int)) ∧ A = []
  | .dct ks ds, v, A => ∃ a kvs B, v = .ref a ∧ H a = some (.dK kvs) ∧ kvs.map (·.1) = ks ∧ Trees K H ds (kvs.map (·.2)) B ∧ A = a :: B
  | .exc x, v, A => ∃ a C, v = .ref a ∧ H a = some (.ext (isX a C)) ∧ PySem.W.nsIn K mainGlobals x = some (some (.ref C)) ∧ xclsB K C = true ∧ A = [a]
def Trees (K : PySem.W.Frag) (H : Hp) : List D → List V → List Addr → Prop
  | [], xs, A => xs = [] ∧ A = []
  | d :: ds, xs, A => ∃ x r B C, xs = x :: r ∧ Tree K H d x B ∧ Trees K H ds r C ∧ A = B ++ C
end
/- nothing in it can change -/
mutual
def D.imm : D → Bool
  | .non => true
  | .bl _ => true
  | .int _ => true
  | .str _ => true
  | .lst _ => false
  | .tup ds => imms ds
  | .scr _ => true
  | .dct _ _ => false
  | .exc _ => false
def imms : List D → Bool
  | [] => true
  | d :: ds => d.imm && imms ds
end

theorem Same.tup {K : PySem.W.Frag} {H H' : Hp} {a : Addr} {xs : List V} (e : Same H H') (h : SqT K H a xs) : SqT K H' a xs := by
  rcases h with (h | ⟨o, h⟩) | h
  · exact .inl (.inl (e _ _ h))
  · exact .inl (.inr ⟨o, e _ _ h⟩)
  · exact .inr h

section
variable {K : PySem.W.Frag} {H H' : Hp} {B B' : Addr → Prop}

structure KeepI (K : PySem.W.Frag) (H H' : Hp) : Prop where
  st : ∀ a xs, SqT K H a xs → SqT K H' a xs
  sf : ∀ a xs, SqF K H a xs → SqF K H' a xs
/-- what is kept: what is read of lists, dicts (outside of B) and tuples -/
structure Keep (K : PySem.W.Frag) (B : Addr → Prop) (H H' : Hp) : Prop where
  sl : ∀ a xs, ¬ B a → H a = some (.lst xs) → H' a = some (.lst xs)
  st : ∀ a xs, SqT K H a xs → SqT K H' a xs
  sf : ∀ a xs, SqF K H a xs → SqF K H' a xs
  sd : ∀ a kvs, ¬ B a → H a = some (.dK kvs) → H' a = some (.dK kvs)
  sx : ∀ a φ, ¬ B a → H a = some (.ext φ) → H' a = some (.ext φ)

theorem Keep.i (k : Keep K B H H') : KeepI K H H' := ⟨k.st, k.sf⟩
mutual
theorem Rep.keep (k : Keep K B H H') : ∀ (d : D) {v : V}, Rep K H B d v → Rep K H' B d v
  | .non, _, h => h
  | .bl _, _, h => h
  | .int _, _, h => h
  | .str _, _, h => h
  | .lst ds, _, h => by
    unfold Rep at h ⊢
    obtain ⟨a, xs, e, n, s, r⟩ := h
    exact ⟨a, xs, e, n, k.sl a xs n s, Reps.keep k ds r⟩
  | .tup ds, _, h => by
    unfold Rep at h ⊢
    obtain ⟨a, xs, e, s, r⟩ := h
    exact ⟨a, xs, e, k.st a xs s, Reps.keep k ds r⟩
  | .scr ns, _, h => by
    unfold Rep at h ⊢
    obtain ⟨a, e, s⟩ := h
    exact ⟨a, e, k.sf a _ s⟩
  | .dct ks ds, _, h => by
    unfold Rep at h ⊢
    obtain ⟨a, kvs, e, n, s, q, r⟩ := h
    exact ⟨a, kvs, e, n, k.sd a kvs n s, q, Reps.keep k ds r⟩
  | .exc _, _, h => by
    unfold Rep at h ⊢
    obtain ⟨a, C, e, n, s, r⟩ := h
    exact ⟨a, C, e, n, k.sx a _ n s, r⟩
theorem Reps.keep (k : Keep K B H H') : ∀ (ds : List D) {xs : List V}, Reps K H B ds xs → Reps K H' B ds xs
  | [], _, h => h
  | d :: ds, _, h => by
    unfold Reps at h ⊢
    obtain ⟨x, r, e, h1, h2⟩ := h
    exact ⟨x, r, e, Rep.keep k d h1, Reps.keep k ds h2⟩
end
mutual
theorem Rep.anti (hb : ∀ a, B' a → B a) : ∀ (d : D) {v : V}, Rep K H B d v → Rep K H B' d v
  | .non, _, h => h
  | .bl _, _, h => h
  | .int _, _, h => h
  | .str _, _, h => h
  | .lst ds, _, h => by
    unfold Rep at h ⊢
    obtain ⟨a, xs, e, n, s, r⟩ := h
    exact ⟨a, xs, e, fun z => n (hb a z), s, Reps.anti hb ds r⟩
  | .tup ds, _, h => by
    unfold Rep at h ⊢
    obtain ⟨a, xs, e, s, r⟩ := h
    exact ⟨a, xs, e, s, Reps.anti hb ds r⟩
  | .scr _, _, h => h
  | .dct ks ds, _, h => by
    unfold Rep at h ⊢
    obtain ⟨a, kvs, e, n, s, q, r⟩ := h
    exact ⟨a, kvs, e, fun z => n (hb a z), s, q, Reps.anti hb ds r⟩
  | .exc _, _, h => by
    unfold Rep at h ⊢
    obtain ⟨a, C, e, n, r⟩ := h
    exact ⟨a, C, e, fun z => n (hb a z), r⟩
theorem Reps.anti (hb : ∀ a, B' a → B a) : ∀ (ds : List D) {xs : List V}, Reps K H B ds xs → Reps K H B' ds xs
  | [], _, h => h
  | d :: ds, _, h => by
    unfold Reps at h ⊢
    obtain ⟨x, r, e, h1, h2⟩ := h
    exact ⟨x, r, e, Rep.anti hb d h1, Reps.anti hb ds h2⟩
end
/- what cannot change stands for itself through whatever -/
mutual
theorem Rep.imm : ∀ (d : D) {v : V}, d.imm = true → Rep K H B d v → Rep K H B' d v
  | .non, _, _, h => h
  | .bl _, _, _, h => h
  | .int _, _, _, h => h
  | .str _, _, _, h => h
  | .lst _, _, i, _ => by unfold D.imm at i; cases i
  | .dct _ _, _, i, _ => by unfold D.imm at i; cases i
  | .exc _, _, i, _ => by unfold D.imm at i; cases i
  | .tup ds, _, i, h => by
    unfold D.imm at i
    unfold Rep at h ⊢
    obtain ⟨a, xs, e, s, r⟩ := h
    exact ⟨a, xs, e, s, Reps.imm ds i r⟩
  | .scr _, _, _, h => h
theorem Reps.imm : ∀ (ds : List D) {xs : List V}, imms ds = true → Reps K H B ds xs → Reps K H B' ds xs
  | [], _, _, h => h
  | d :: ds, _, i, h => by
    unfold imms at i
    rw [Bool.and_eq_true] at i
    unfold Reps at h ⊢
    obtain ⟨x, r, e, h1, h2⟩ := h
    exact ⟨x, r, e, Rep.imm d i.1 h1, Reps.imm ds i.2 h2⟩
end
/- and it is a tree without lists -/
mutual
theorem Rep.immTree : ∀ (d : D) {v : V}, d.imm = true → Rep K H B d v → Tree K H d v []
  | .non, _, _, h => ⟨h, rfl⟩
  | .bl _, _, _, h => ⟨h, rfl⟩
  | .int _, _, _, h => ⟨h, rfl⟩
  | .str _, _, _, h => ⟨h, rfl⟩
  | .lst _, _, i, _ => by unfold D.imm at i; cases i
  | .dct _ _, _, i, _ => by unfold D.imm at i; cases i
  | .exc _, _, i, _ => by unfold D.imm at i; cases i
  | .tup ds, _, i, h => by
    unfold D.imm at i
    unfold Rep at h
    unfold Tree
    obtain ⟨a, xs, e, s, r⟩ := h
    exact ⟨a, xs, e, s, Reps.immTree ds i r⟩
  | .scr _, _, _, h => ⟨h, rfl⟩
theorem Reps.immTree : ∀ (ds : List D) {xs : List V}, imms ds = true → Reps K H B ds xs → Trees K H ds xs []
  | [], _, _, h => ⟨h, rfl⟩
  | d :: ds, _, i, h => by
    unfold imms at i
    rw [Bool.and_eq_true] at i
    unfold Reps at h
    unfold Trees
    obtain ⟨x, r, e, h1, h2⟩ := h
    exact ⟨x, r, [], [], e, Rep.immTree d i.1 h1, Reps.immTree ds i.2 h2, rfl⟩
end
mutual
theorem Tree.rep : ∀ (d : D) {v : V} {A : List Addr}, Tree K H d v A → (∀ a ∈ A, ¬ B a) → Rep K H B d v
  | .non, _, _, h, _ => h.1
  | .bl _, _, _, h, _ => h.1
  | .int _, _, _, h, _ => h.1
  | .str _, _, _, h, _ => h.1
  | .lst ds, _, _, h, n => by
    unfold Tree at h
    unfold Rep
    obtain ⟨a, xs, C, e, s, r, rfl⟩ := h
    exact ⟨a, xs, e, n a List.mem_cons_self, s, Trees.rep ds r fun b hb => n b (List.mem_cons_of_mem _ hb)⟩
  | .tup ds, _, _, h, n => by
    unfold Tree at h
    unfold Rep
    obtain ⟨a, xs, e, s, r⟩ := h
    exact ⟨a, xs, e, s, Trees.rep ds r n⟩
  | .scr _, _, _, h, _ => h.1
  | .dct ks ds, _, _, h, n => by
    unfold Tree at h
    unfold Rep
    obtain ⟨a, kvs, C, e, s, q, r, rfl⟩ := h
    exact ⟨a, kvs, e, n a List.mem_cons_self, s, q, Trees.rep ds r fun b hb => n b (List.mem_cons_of_mem _ hb)⟩
  | .exc _, _, _, h, n => by
    unfold Tree at h
    unfold Rep
    obtain ⟨a, C, e, s, r1, r2, rfl⟩ := h
    exact ⟨a, C, e, n a List.mem_cons_self, s, r1, r2⟩
theorem Trees.rep : ∀ (ds : List D) {xs : List V} {A : List Addr}, Trees K H ds xs A → (∀ a ∈ A, ¬ B a) → Reps K H B ds xs
  | [], _, _, h, _ => h.1
  | d :: ds, _, _, h, n => by
    unfold Trees at h
    unfold Reps
    obtain ⟨x, r, C, C', e, h1, h2, rfl⟩ := h
    exact ⟨x, r, e, Tree.rep d h1 fun b hb => n b (List.mem_append_left _ hb), Trees.rep ds h2 fun b hb => n b (List.mem_append_right _ hb)⟩
end
/- a tree stays where its own lists stay -/
mutual
theorem Tree.keep (kt : KeepI K H H') : ∀ (d : D) {v : V} {A : List Addr}, Tree K H d v A → (∀ a ∈ A, ∀ o, H a = some o → H' a = some o) → Tree K H' d v A
  | .non, _, _, h, _ => h
  | .bl _, _, _, h, _ => h
  | .int _, _, _, h, _ => h
  | .str _, _, _, h, _ => h
  | .lst ds, _, _, h, n => by
    unfold Tree at h ⊢
    obtain ⟨a, xs, C, e, s, r, rfl⟩ := h
    exact ⟨a, xs, C, e, n a List.mem_cons_self _ s, Trees.keep kt ds r fun b hb => n b (List.mem_cons_of_mem _ hb), rfl⟩
  | .tup ds, _, _, h, n => by
    unfold Tree at h ⊢
    obtain ⟨a, xs, e, s, r⟩ := h
    exact ⟨a, xs, e, kt.st a xs s, Trees.keep kt ds r n⟩
  | .scr _, _, _, h, _ => by
    unfold Tree at h ⊢
    obtain ⟨⟨a, e, s⟩, q⟩ := h
    exact ⟨⟨a, e, kt.sf a _ s⟩, q⟩
  | .dct ks ds, _, _, h, n => by
    unfold Tree at h ⊢
    obtain ⟨a, kvs, C, e, s, q, r, rfl⟩ := h
    exact ⟨a, kvs, C, e, n a List.mem_cons_self _ s, q, Trees.keep kt ds r fun b hb => n b (List.mem_cons_of_mem _ hb), rfl⟩
  | .exc _, _, _, h, n => by
    unfold Tree at h ⊢
    obtain ⟨a, C, e, s, r1, r2, rfl⟩ := h
    exact ⟨a, C, e, n a List.mem_cons_self _ s, r1, r2, rfl⟩
theorem Trees.keep (kt : KeepI K H H') : ∀ (ds : List D) {xs : List V} {A : List Addr}, Trees K H ds xs A → (∀ a ∈ A, ∀ o, H a = some o → H' a = some o) → Trees K H' ds xs A
  | [], _, _, h, _ => h
  | d :: ds, _, _, h, n => by
    unfold Trees at h ⊢
    obtain ⟨x, r, C, C', e, h1, h2, rfl⟩ := h
    exact ⟨x, r, C, C', e, Tree.keep kt d h1 fun b hb => n b (List.mem_append_left _ hb), Trees.keep kt ds h2 fun b hb => n b (List.mem_append_right _ hb), rfl⟩
end
/- what a tree's addresses hold -/
mutual
theorem Tree.held : ∀ (d : D) {v : V} {A : List Addr}, Tree K H d v A → ∀ a ∈ A, ∃ o, H a = some o ∧ Mut (some o)
  | .non, _, _, h, a, ha => by rw [h.2] at ha; cases ha
  | .bl _, _, _, h, a, ha => by rw [h.2] at ha; cases ha
  | .int _, _, _, h, a, ha => by rw [h.2] at ha; cases ha
  | .str _, _, _, h, a, ha => by rw [h.2] at ha; cases ha
  | .lst ds, _, _, h, b, hb => by
    unfold Tree at h
    obtain ⟨a, xs, C, e, s, r, rfl⟩ := h
    rcases List.mem_cons.mp hb with z | z
    · subst z; exact ⟨_, s, trivial⟩
    · exact Trees.held ds r b z
  | .tup ds, _, _, h, b, hb => by
    unfold Tree at h
    obtain ⟨a, xs, e, s, r⟩ := h
    exact Trees.held ds r b hb
  | .scr _, _, _, h, a, ha => by rw [h.2] at ha; cases ha
  | .dct ks ds, _, _, h, b, hb => by
    unfold Tree at h
    obtain ⟨a, kvs, C, e, s, q, r, rfl⟩ := h
    rcases List.mem_cons.mp hb with z | z
    · subst z; exact ⟨_, s, trivial⟩
    · exact Trees.held ds r b z
  | .exc _, _, _, h, b, hb => by
    unfold Tree at h
    obtain ⟨a, C, e, s, r1, r2, rfl⟩ := h
    rw [List.mem_singleton.mp hb]
    exact ⟨_, s, trivial⟩
theorem Trees.held : ∀ (ds : List D) {xs : List V} {A : List Addr}, Trees K H ds xs A → ∀ a ∈ A, ∃ o, H a = some o ∧ Mut (some o)
  | [], _, _, h, a, ha => by rw [h.2] at ha; cases ha
  | d :: ds, _, _, h, b, hb => by
    unfold Trees at h
    obtain ⟨x, r, C, C', e, h1, h2, rfl⟩ := h
    rcases List.mem_append.mp hb with z | z
    · exact Tree.held d h1 b z
    · exact Trees.held ds h2 b z
end

theorem Same.rd {H H' : Hp} {a : Addr} {u : HO} (e : Same H H') (h : Rd H a u) : Rd H' a u := h.elim (fun z => .inl (e _ _ z)) fun ⟨o, z⟩ => .inr ⟨o, e _ _ z⟩
theorem Same.sf (e : Same H H') {a : Addr} {xs : List V} (h : SqF K H a xs) : SqF K H' a xs := h.elim (fun ⟨o, z⟩ => .inl ⟨o, e _ _ z⟩) .inr
theorem Keep.same (e : Same H H') : Keep K B H H' := ⟨fun _ _ _ h => e _ _ h, fun _ _ h => e.tup h, fun _ _ h => e.sf h, fun _ _ _ h => e _ _ h, fun _ _ _ h => e _ _ h⟩
theorem KeepI.same (e : Same H H') : KeepI K H H' := ⟨fun _ _ h => e.tup h, fun _ _ h => e.sf h⟩
theorem Rep.mono {d : D} {v : V} (h : Rep K H B d v) (e : Same H H') : Rep K H' B d v := Rep.keep (.same e) d h
theorem Reps.mono {ds : List D} {xs : List V} (h : Reps K H B ds xs) (e : Same H H') : Reps K H' B ds xs := Reps.keep (.same e) ds h
theorem Tree.mono {d : D} {v : V} {A : List Addr} (h : Tree K H d v A) (e : Same H H') : Tree K H' d v A := Tree.keep (.same e) d h fun a _ o z => e a o z
theorem Trees.mono {ds : List D} {v : List V} {A : List Addr} (h : Trees K H ds v A) (e : Same H H') : Trees K H' ds v A := Trees.keep (.same e) ds h fun a _ o z => e a o z

/- what is not there yet is not gone through -/
mutual
theorem Rep.wide {C : Addr → Prop} (hc : ∀ a, C a → H a = none) : ∀ (d : D) {v : V}, Rep K H B d v → Rep K H (fun a => B a ∨ C a) d v
  | .non, _, h => h
  | .bl _, _, h => h
  | .int _, _, h => h
  | .str _, _, h => h
  | .lst ds, _, h => by
    unfold Rep at h ⊢
    obtain ⟨a, xs, e, n, s, r⟩ := h
    refine ⟨a, xs, e, fun z => z.elim n fun z => ?_, s, Reps.wide hc ds r⟩
    rw [hc a z] at s; cases s
  | .tup ds, _, h => by
    unfold Rep at h ⊢
    obtain ⟨a, xs, e, s, r⟩ := h
    exact ⟨a, xs, e, s, Reps.wide hc ds r⟩
  | .scr _, _, h => h
  | .dct ks ds, _, h => by
    unfold Rep at h ⊢
    obtain ⟨a, kvs, e, n, s, q, r⟩ := h
    refine ⟨a, kvs, e, fun z => z.elim n fun z => ?_, s, q, Reps.wide hc ds r⟩
    rw [hc a z] at s; cases s
  | .exc _, _, h => by
    unfold Rep at h ⊢
    obtain ⟨a, C, e, n, s, r⟩ := h
    refine ⟨a, C, e, fun z => z.elim n fun z => ?_, s, r⟩
    rw [hc a z] at s; cases s
theorem Reps.wide {C : Addr → Prop} (hc : ∀ a, C a → H a = none) : ∀ (ds : List D) {xs : List V}, Reps K H B ds xs → Reps K H (fun a => B a ∨ C a) ds xs
  | [], _, h => h
  | d :: ds, _, h => by
    unfold Reps at h ⊢
    obtain ⟨x, r, e, h1, h2⟩ := h
    exact ⟨x, r, e, Rep.wide hc d h1, Reps.wide hc ds h2⟩
end
/-- a list or dict of B is written -/
theorem Keep.upd {a : Addr} {o : HO} (hb : B a) (mu : Mut (H a)) : Keep K B H (upd H a o) := by
  refine ⟨fun b xs n h => ?_, fun b xs h => ?_, fun b xs h => ?_, fun b kvs n h => ?_, fun b φ n h => ?_⟩
  · have ne : b ≠ a := fun z => n (z ▸ hb)
    rw [upd_ne ne]; exact h
  · rcases h with (h | ⟨u, h⟩) | h
    · have ne : b ≠ a := fun z => by subst z; rw [h] at mu; exact mu
      exact .inl (.inl (by rw [upd_ne ne]; exact h))
    · have ne : b ≠ a := fun z => by subst z; rw [h] at mu; exact mu
      exact .inl (.inr ⟨u, by rw [upd_ne ne]; exact h⟩)
    · exact .inr h
  · rcases h with ⟨u, h⟩ | h
    · have ne : b ≠ a := fun z => by subst z; rw [h] at mu; exact mu
      exact .inl ⟨u, by rw [upd_ne ne]; exact h⟩
    · exact .inr h
  · have ne : b ≠ a := fun z => n (z ▸ hb)
    rw [upd_ne ne]; exact h
  · have ne : b ≠ a := fun z => n (z ▸ hb)
    rw [upd_ne ne]; exact h
theorem same_upd {a : Addr} {o : HO} (h : H a = none) : Same H (upd H a o) := fun b u e => by rw [upd_ne (ne_of_none e h)]; exact e

theorem Reps.length : ∀ {ds : List D} {xs : List V}, Reps K H B ds xs → ds.length = xs.length
  | [], _, h => by unfold Reps at h; subst h; rfl
  | d :: ds, _, h => by
    unfold Reps at h
    obtain ⟨x, r, rfl, _, h2⟩ := h
    simp [Reps.length h2]
theorem Reps.get : ∀ {ds : List D} {xs : List V} {i : Nat} {d : D}, Reps K H B ds xs → ds[i]? = some d → ∃ x, xs[i]? = some x ∧ Rep K H B d x
  | [], _, _, _, _, e => by simp at e
  | d :: ds, _, i, d', h, e => by
    unfold Reps at h
    obtain ⟨x, r, rfl, h1, h2⟩ := h
    cases i with
    | zero => simp at e; subst e; exact ⟨x, rfl, h1⟩
    | succ i => simpa using Reps.get (i := i) h2 (by simpa using e)
theorem Reps.get' : ∀ {ds : List D} {xs : List V} {i : Nat} {x : V}, Reps K H B ds xs → xs[i]? = some x → ∃ d, ds[i]? = some d ∧ Rep K H B d x
  | [], _, _, _, h, e => by unfold Reps at h; subst h; simp at e
  | d :: ds, _, i, x', h, e => by
    unfold Reps at h
    obtain ⟨x, r, rfl, h1, h2⟩ := h
    cases i with
    | zero => simp at e; subst e; exact ⟨d, rfl, h1⟩
    | succ i => simpa using Reps.get' (i := i) h2 (by simpa using e)
theorem Reps.append : ∀ {ds es : List D} {xs ys : List V}, Reps K H B ds xs → Reps K H B es ys → Reps K H B (ds ++ es) (xs ++ ys)
  | [], _, _, _, h, h' => by unfold Reps at h; subst h; exact h'
  | d :: ds, es, _, ys, h, h' => by
    unfold Reps at h
    obtain ⟨x, r, rfl, h1, h2⟩ := h
    exact (show Reps K H B (d :: (ds ++ es)) (x :: (r ++ ys)) by unfold Reps; exact ⟨x, r ++ ys, rfl, h1, Reps.append h2 h'⟩)
theorem Reps.take : ∀ {ds : List D} {xs : List V} (n : Nat), Reps K H B ds xs → Reps K H B (ds.take n) (xs.take n)
  | _, _, 0, _ => by rw [List.take_zero, List.take_zero]; unfold Reps; rfl
  | [], _, _ + 1, h => by unfold Reps at h; subst h; unfold Reps; rfl
  | d :: ds, _, n + 1, h => by
    unfold Reps at h
    obtain ⟨x, r, rfl, h1, h2⟩ := h
    rw [List.take_succ_cons, List.take_succ_cons]
    unfold Reps
    exact ⟨x, _, rfl, h1, Reps.take n h2⟩
theorem Reps.drop : ∀ {ds : List D} {xs : List V} (n : Nat), Reps K H B ds xs → Reps K H B (ds.drop n) (xs.drop n)
  | _, _, 0, h => h
  | [], _, _ + 1, h => by unfold Reps at h; subst h; unfold Reps; rfl
  | d :: ds, _, n + 1, h => by
    unfold Reps at h
    obtain ⟨x, r, rfl, h1, h2⟩ := h
    exact Reps.drop n h2
theorem Reps.one {d : D} {x : V} (h : Rep K H B d x) : Reps K H B [d] [x] := by unfold Reps; exact ⟨x, [], rfl, h, by unfold Reps; rfl⟩
theorem Reps.nil : Reps K H B [] [] := by unfold Reps; rfl
theorem Reps.cons {d : D} {x : V} {ds : List D} {xs : List V} (h : Rep K H B d x) (h' : Reps K H B ds xs) : Reps K H B (d :: ds) (x :: xs) := by unfold Reps; exact ⟨x, xs, rfl, h, h'⟩
theorem Reps.snoc {d : D} {x : V} {ds : List D} {xs : List V} (h' : Reps K H B ds xs) (h : Rep K H B d x) : Reps K H B (ds ++ [d]) (xs ++ [x]) := h'.append (.one h)
theorem Trees.nil : Trees K H [] [] [] := ⟨rfl, rfl⟩
theorem Trees.snoc : ∀ {ds : List D} {xs : List V} {A C : List Addr} {d : D} {x : V}, Trees K H ds xs A → Tree K H d x C → Trees K H (ds ++ [d]) (xs ++ [x]) (A ++ C)
  | [], _, _, C, d, x, h, h' => by
    obtain ⟨rfl, rfl⟩ := h
    exact (show Trees K H [d] [x] C by unfold Trees; exact ⟨x, [], C, [], rfl, h', ⟨rfl, rfl⟩, (List.append_nil _).symm⟩)
  | e :: ds, _, _, C, d, x, h, h' => by
    unfold Trees at h
    obtain ⟨y, r, A1, A2, rfl, h1, h2, rfl⟩ := h
    exact (show Trees K H (e :: (ds ++ [d])) (y :: (r ++ [x])) (A1 ++ A2 ++ C) by unfold Trees; exact ⟨y, _, A1, A2 ++ C, rfl, h1, Trees.snoc h2 h', List.append_assoc _ _ _⟩)
end
end L2

/-! ### E3: expressions by trees -/
namespace L2
open PySem PySem.Spec PyProof.Rows

abbrev DS := List (Option D)
abbrev DE := DS → Option D
structure RepS (K : PySem.W.Frag) (H : Hp) (B : Addr → Prop) (σ : St) (δ : DS) : Prop where
  len : δ.length = σ.length
  get : ∀ (i : Nat) (d : D), δ[i]? = some (some d) → ∃ v, σ[i]? = some (some v) ∧ Rep K H B d v
def InB (B : Addr → Prop) (H : Hp) : Prop := ∀ a, B a → ∃ o, H a = some o
def noB : Addr → Prop := fun _ => False
theorem InB.mono {B : Addr → Prop} {H H' : Hp} (h : InB B H) (e : Same H H') : InB B H' := fun a b => let ⟨o, q⟩ := h a b; ⟨o, e a o q⟩
theorem InB.no {H : Hp} : InB noB H := fun _ b => b.elim
theorem InB.fresh {B : Addr → Prop} {H : Hp} (h : InB B H) {a : Addr} (e : H a = none) : ¬ B a := fun b => by
  obtain ⟨o, q⟩ := h a b
  rw [e] at q; cases q
theorem RepS.mono {K : PySem.W.Frag} {H H' : Hp} {B : Addr → Prop} {σ : St} {δ : DS} (h : RepS K H B σ δ) (e : Same H H') : RepS K H' B σ δ :=
  ⟨h.len, fun i d q => let ⟨v, a, r⟩ := h.get i d q; ⟨v, a, r.mono e⟩⟩
theorem RepS.anti {K : PySem.W.Frag} {H : Hp} {B B' : Addr → Prop} {σ : St} {δ : DS} (h : RepS K H B σ δ) (e : ∀ a, B' a → B a) : RepS K H B' σ δ :=
  ⟨h.len, fun i d q => let ⟨v, a, r⟩ := h.get i d q; ⟨v, a, r.anti e⟩⟩

/-- an expression's tree: shared with what is there (D), a list just made (F), a tree all new (N); a test's bool (T); arguments (Ds) -/
def tD (K : PySem.W.Frag) (f : DE) : TE := fun σ H Q => ∃ B δ d, InB B H ∧ RepS K H B σ δ ∧ f δ = some d ∧ ∀ v H', Same H H' → Rep K H' B d v → Q v H'
def tF (K : PySem.W.Frag) (f : DS → Option (List D)) : TE := fun σ H Q => ∃ B δ ds, InB B H ∧ RepS K H B σ δ ∧ f δ = some ds ∧
  ∀ a xs H', Same H H' → H a = none → H' a = some (.lst xs) → Reps K H' B ds xs → Q (.ref a) H'
def tN (K : PySem.W.Frag) (f : DE) : TE := fun σ H Q => ∃ δ d, RepS K H noB σ δ ∧ f δ = some d ∧ ∀ v H' A, Same H H' → Tree K H' d v A → A.Nodup → (∀ a ∈ A, H a = none) → Q v H'
def tT (K : PySem.W.Frag) (f : DS → Option Bool) : TT := fun σ H Q => ∃ B δ b, InB B H ∧ RepS K H B σ δ ∧ f δ = some b ∧ ∀ H', Same H H' → Q b H'
def tDs (K : PySem.W.Frag) (f : DS → Option (List D)) : TA := fun σ H Q => ∃ B δ ds, InB B H ∧ RepS K H B σ δ ∧ f δ = some ds ∧ ∀ vs H', Same H H' → Reps K H' B ds vs → Q vs H'
abbrev PD (X : Cx) (e : Expr) (f : DE) : Prop := PE X e (tD X.K f)
abbrev PF (X : Cx) (e : Expr) (f : DS → Option (List D)) : Prop := PE X e (tF X.K f)
abbrev PN (X : Cx) (e : Expr) (f : DE) : Prop := PE X e (tN X.K f)
abbrev PTD (X : Cx) (e : Expr) (f : DS → Option Bool) : Prop := PT X e (tT X.K f)
abbrev PWD (X : Cx) (e : Expr) (f : DS → Option Bool) : Prop := PW X e (tT X.K f)

section
variable {X : Cx} {e a b c : Expr} {es : List Expr} {pos : Pos}
theorem PE.imp {t t' : TE} (h : PE X e t) (w : ∀ σ H Q, t' σ H Q → t σ H Q) : PE X e t' := fun pins s σ H Q I q => h pins s σ H Q I (w σ H Q q)
theorem PT.imp {t t' : TT} (h : PT X e t) (w : ∀ σ H Q, t' σ H Q → t σ H Q) : PT X e t' := fun pins s σ H Q I q => h pins s σ H Q I (w σ H Q q)
theorem PW.imp {t t' : TT} (h : PW X e t) (w : ∀ σ H Q, t' σ H Q → t σ H Q) : PW X e t' := fun wh pins s σ H Q I q => h wh pins s σ H Q I (w σ H Q q)
theorem PA.imp {t t' : TA} (h : PA X es t) (w : ∀ σ H Q, t' σ H Q → t σ H Q) : PA X es t' := fun po pins s σ H Q I q => h po pins s σ H Q I (w σ H Q q)

def mkL (f : DS → Option (List D)) : DE := fun δ => (f δ).map .lst
def mkFlat (f : DS → Option (List D)) : DE := fun δ => (f δ).bind fun ds => if imms ds = true then some (.lst ds) else none
def mkImm (f : DE) : DE := fun δ => (f δ).bind fun d => if d.imm = true then some d else none
theorem iDF {K : PySem.W.Frag} {f : DS → Option (List D)} : ∀ σ H Q, tD K (mkL f) σ H Q → tF K f σ H Q := fun σ H Q ⟨B, δ, d, hB, S, q, k⟩ => by
  unfold mkL at q
  cases r : f δ with
  | none => rw [r] at q; cases q
  | some ds =>
    rw [r] at q
    cases q
    exact ⟨B, δ, ds, hB, S, r, fun a xs H' s hn ha hr => k _ H' s (by unfold Rep; exact ⟨a, xs, rfl, hB.fresh hn, ha, hr⟩)⟩
theorem iDN {K : PySem.W.Frag} {f : DE} : ∀ σ H Q, tD K f σ H Q → tN K f σ H Q := fun σ H Q ⟨B, δ, d, hB, S, q, k⟩ =>
  ⟨δ, d, S.anti (fun _ z => z.elim), q, fun v H' A s t nd fr => k v H' s (t.rep d fun a ha => hB.fresh (fr a ha))⟩
theorem iNF {K : PySem.W.Frag} {f : DS → Option (List D)} : ∀ σ H Q, tN K (mkFlat f) σ H Q → tF K f σ H Q := fun σ H Q ⟨δ, d, S, q, k⟩ => by
  unfold mkFlat at q
  cases r : f δ with
  | none => rw [r] at q; cases q
  | some ds =>
    rw [r] at q
    have q' : (if imms ds = true then some (D.lst ds) else none) = some d := q
    split at q'
    · rename_i hi
      cases q'
      refine ⟨noB, δ, ds, .no, S, r, fun a xs H' s hn ha hr => k (.ref a) H' [a] s ?_ (List.nodup_cons.mpr ⟨(fun z => nomatch z), List.nodup_nil⟩) (fun b hb => by rw [List.mem_singleton.mp hb]; exact hn)⟩
      unfold Tree
      exact ⟨a, xs, [], rfl, ha, hr.immTree ds hi, rfl⟩
    · cases q'

theorem pd_F {f : DS → Option (List D)} (h : PF X e f) : PD X e (mkL f) := h.imp iDF
theorem pd_N {f : DE} (h : PN X e f) : PD X e f := h.imp iDN
theorem pn_F {f : DS → Option (List D)} (h : PF X e f) : PN X e (mkFlat f) := h.imp iNF

/-! ### names, constants -/
def dVar (i : Nat) : DE := fun δ => (δ[i]?).bind id
def dC (d : D) : DE := fun _ => some d
theorem pd_v (i : Nat) {x : Str} {p : Pos} (h : PE X (.Name x p) (tVar i)) : PD X (.Name x p) (dVar i) := h.imp fun σ H Q ⟨B, δ, d, hB, S, q, k⟩ => by
  unfold dVar at q
  cases r : δ[i]? with
  | none => rw [r] at q; cases q
  | some o =>
    rw [r] at q
    have q' : o = some d := q
    subst q'
    obtain ⟨v, e, rv⟩ := S.get i d r
    exact ⟨v, e, k v H (.refl H) rv⟩
theorem pd_C {d : D} {v : V} (h : PE X e (tC v)) (r : ∀ K H B, Rep K H B d v) : PD X e (dC d) := h.imp fun σ H Q ⟨B, δ, d', hB, S, q, k⟩ => by
  cases q
  exact k v H (.refl H) (r _ _ _)
theorem pd_int {i j p} : PD X (.Constant (.int i) j p) (dC (.int i)) := pd_C pe_int fun _ _ _ => rfl
theorem pd_bl {i j p} : PD X (.Constant (.bool i) j p) (dC (.bl i)) := pd_C pe_bl fun _ _ _ => rfl

/-! ### two parts -/
def d2 (F : D → D → Option D) (f g : DE) : DE := fun δ => (f δ).bind fun x => (g δ).bind fun y => F x y
theorem d2_some {F : D → D → Option D} {f g : DE} {δ : DS} {d : D} (h : d2 F f g δ = some d) : ∃ x y, f δ = some x ∧ g δ = some y ∧ F x y = some d := by
  unfold d2 at h
  cases hx : f δ with
  | none => rw [hx] at h; cases h
  | some x =>
    rw [hx] at h
    cases hy : g δ with
    | none =>
      have h' : ((g δ).bind fun y => F x y) = some d := h
      rw [hy] at h'; cases h'
    | some y =>
      have h' : ((g δ).bind fun y => F x y) = some d := h
      rw [hy] at h'
      exact ⟨x, y, rfl, rfl, h'⟩
/-- what a rule by values says by trees -/
def Op2 (K : PySem.W.Frag) (r : R2) (F : D → D → Option D) : Prop := ∀ (H : Hp) (B : Addr → Prop) (dx dy d : D) (x y : V) (Q : VK), InB B H → Rep K H B dx x → Rep K H B dy y → F dx dy = some d → (∀ v H', Same H H' → Rep K H' B d v → Q v H') → r x y H Q
theorem two_of {r : R2} {F : D → D → Option D} {f g : DE} (ho : Op2 X.K r F) (σ : St) (H : Hp) (Q : VK) (h : tD X.K (d2 F f g) σ H Q) : tOp r (tD X.K f) (tD X.K g) σ H Q := by
  obtain ⟨B, δ, d, hB, S, q, k⟩ := h
  obtain ⟨dx, dy, e1, e2, e3⟩ := d2_some q
  exact ⟨B, δ, dx, hB, S, e1, fun v H1 s1 r1 => ⟨B, δ, dy, hB.mono s1, S.mono s1, e2, fun u H2 s2 r2 =>
    ho H2 B dx dy d v u Q ((hB.mono s1).mono s2) (r1.mono s2) r2 e3 fun z H' s' rz => k z H' ((s1.trans s2).trans s') rz⟩⟩
theorem pd_op {op : Operator} {r : R2} {F : D → D → Option D} {f g : DE} (ho : OpR X (binaryOp op) r) (hD : Op2 X.K r F) (ha : PD X a f) (hb : PD X b g) : PD X (.BinOp a op b pos) (d2 F f g) := (pe_op ho ha hb).imp (two_of hD)
theorem pd_cmp {op : CmpOp} {r : R2} {F : D → D → Option D} {f g : DE} (ho : OpR X (compareOp op) r) (hD : Op2 X.K r F) (ha : PD X a f) (hb : PD X b g) (hm : behindInMarks op b = false) : PD X (.Compare a [op] [b] pos) (d2 F f g) := (pe_cmpR ho ha hb hm).imp (two_of hD)
def dTest (f : DE) : DS → Option Bool := fun δ => match f δ with
  | some (.bl b) => some b
  | _ => none
theorem dTest_some {f : DE} {δ : DS} {b : Bool} (h : dTest f δ = some b) : f δ = some (.bl b) := by
  unfold dTest at h
  split at h
  · rename_i b' e
    cases h; exact e
  · cases h
theorem test_of {t : TE} {f : DE} (h : ∀ σ H Q, tD X.K f σ H Q → t σ H Q) (σ : St) (H : Hp) (Q : Bool → Hp → Prop) (q : tT X.K (dTest f) σ H Q) : tTest t σ H Q := by
  obtain ⟨B, δ, b, hB, S, q, k⟩ := q
  refine h σ H _ ⟨B, δ, .bl b, hB, S, dTest_some q, fun v H' s r => ?_⟩
  exact ⟨b, r, k H' s⟩
theorem pt_cmpD {op : CmpOp} {r : R2} {F : D → D → Option D} {f g : DE} (ho : OpR X (compareOp op) r) (hD : Op2 X.K r F) (ha : PD X a f) (hb : PD X b g) (hm : behindInMarks op b = false) : PTD X (.Compare a [op] [b] pos) (dTest (d2 F f g)) := (pt_cmpR ho ha hb hm).imp (test_of (two_of hD))
def dChain (F G : D → D → Option D) (f g h : DE) : DE := fun δ => (f δ).bind fun x => (g δ).bind fun y => match F x y with
  | some (.bl true) => (h δ).bind fun z => G y z
  | some (.bl false) => some (.bl false)
  | _ => none

/-! ### ints -/
def iop (F : Int → Int → Option D) : D → D → Option D
  | .int i, .int j => F i j
  | _, _ => none
theorem iop_some {F : Int → Int → Option D} {x y d : D} (h : iop F x y = some d) : ∃ i j, x = .int i ∧ y = .int j ∧ F i j = some d := by
  unfold iop at h
  split at h
  · exact ⟨_, _, rfl, rfl, h⟩
  · cases h
theorem o2_int {K : PySem.W.Frag} {C : Int → Int → Prop} [∀ i j, Decidable (C i j)] {g : Int → Int → Int} : Op2 K (rI C fun i j => .int (g i j)) (iop fun i j => if C i j then some (.int (g i j)) else none) := by
  intro H B dx dy d x y Q hB hx hy q k
  obtain ⟨i, j, rfl, rfl, q2⟩ := iop_some q
  by_cases hc : C i j
  · rw [if_pos hc] at q2
    cases q2
    exact ⟨i, j, hx, hy, hc, k _ H (.refl H) rfl⟩
  · rw [if_neg hc] at q2
    cases q2
theorem o2_int0 {K : PySem.W.Frag} {g : Int → Int → Int} : Op2 K (rI0 fun i j => .int (g i j)) (iop fun i j => some (.int (g i j))) := by
  intro H B dx dy d x y Q hB hx hy q k
  obtain ⟨i, j, rfl, rfl, q2⟩ := iop_some q
  cases q2
  exact ⟨i, j, hx, hy, k _ H (.refl H) rfl⟩
theorem o2_bool0 {K : PySem.W.Frag} {g : Int → Int → Bool} : Op2 K (rI0 fun i j => .bl (g i j)) (iop fun i j => some (.bl (g i j))) := by
  intro H B dx dy d x y Q hB hx hy q k
  obtain ⟨i, j, rfl, rfl, q2⟩ := iop_some q
  cases q2
  exact ⟨i, j, hx, hy, k _ H (.refl H) rfl⟩
theorem Op2.or {K : PySem.W.Frag} {r r' : R2} {F G : D → D → Option D} (h : Op2 K r F) (h' : Op2 K r' G) : Op2 K (fun x y H Q => r x y H Q ∨ r' x y H Q) (fun x y => (F x y).orElse fun _ => G x y) := by
  intro H B dx dy d x y Q hB hx hy q k
  cases e : F dx dy with
  | some d' =>
    have q' : (F dx dy).orElse (fun _ => G dx dy) = some d := q
    rw [e] at q'
    cases q'
    exact .inl (h H B dx dy _ x y Q hB hx hy e k)
  | none =>
    have q' : (F dx dy).orElse (fun _ => G dx dy) = some d := q
    rw [e] at q'
    exact .inr (h' H B dx dy d x y Q hB hx hy q' k)

/-! ### one part -/
def d1 (F : D → Option D) (f : DE) : DE := fun δ => (f δ).bind F
theorem d1_some {F : D → Option D} {f : DE} {δ : DS} {d : D} (h : d1 F f δ = some d) : ∃ x, f δ = some x ∧ F x = some d := by
  unfold d1 at h
  cases hx : f δ with
  | none => rw [hx] at h; cases h
  | some x => rw [hx] at h; exact ⟨x, rfl, h⟩
def uNeg : D → Option D
  | .int i => some (.int (-i))
  | _ => none
theorem pd_neg {f : DE} (h : PD X a f) : PD X (.UnaryOp .USub a pos) (d1 uNeg f) := (pe_un un_neg h).imp fun σ H Q ⟨B, δ, d, hB, S, q, k⟩ => by
  obtain ⟨x, e1, e2⟩ := d1_some q
  refine ⟨B, δ, x, hB, S, e1, fun v H' s r => ?_⟩
  unfold uNeg at e2
  split at e2
  · cases e2
    exact ⟨_, r, k _ H' s rfl⟩
  · cases e2

/-! ### and, or, not, if -/
def truthD : D → Option Bool
  | .non => some false
  | .bl b => some b
  | .int i => some (i != 0)
  | .str x => if x.length ≤ sizeLine then some ((x.length : Int) != 0) else none
  | .lst ds => some (!ds.isEmpty)
  | .tup ds => some (!ds.isEmpty)
  | .scr ns => some (!ns.isEmpty)
  | .dct ks _ => some (!ks.isEmpty)
  | .exc _ => none
def dTruth (f : DE) : DS → Option Bool := fun δ => (f δ).bind truthD
theorem empty_eq {K : PySem.W.Frag} {H : Hp} {B : Addr → Prop} {ds : List D} {xs : List V} (h : Reps K H B ds xs) : (!ds.isEmpty) = !xs.isEmpty := by
  have := h.length
  cases ds <;> cases xs <;> simp_all
theorem truth_rep {K : PySem.W.Frag} {H : Hp} {B : Addr → Prop} {d : D} {v : V} {k : Bool} (h : Rep K H B d v) (e : truthD d = some k) : TruV K v H k := by
  cases d with
  | non => cases h; cases e; rfl
  | bl b => cases h; cases e; rfl
  | int i => cases h; cases e; rfl
  | str x =>
    cases h
    have e' : (if x.length ≤ sizeLine then some ((x.length : Int) != 0) else none) = some k := e
    by_cases hl : x.length ≤ sizeLine
    · rw [if_pos hl] at e'
      cases e'
      exact ⟨hl, rfl⟩
    · rw [if_neg hl] at e'
      cases e'
  | lst ds =>
    unfold Rep at h
    obtain ⟨a, xs, rfl, _, s, r⟩ := h
    cases e
    exact .inl ⟨xs, SqL.of s, empty_eq r⟩
  | tup ds =>
    unfold Rep at h
    obtain ⟨a, xs, rfl, s, r⟩ := h
    cases e
    exact .inr (.inl ⟨xs, s, empty_eq r⟩)
  | scr ns =>
    unfold Rep at h
    obtain ⟨a, rfl, s⟩ := h
    cases e
    exact .inl ⟨_, s.sq, by cases ns <;> rfl⟩
  | dct ks ds =>
    unfold Rep at h
    obtain ⟨a, kvs, rfl, _, s, q, r⟩ := h
    cases e
    refine .inr (.inr ⟨kvs, s, ?_⟩)
    rw [← q]
    cases kvs <;> rfl
  | exc _ => cases e
theorem pt_truthD {f : DE} (h : PD X a f) (he : ∀ whole, isTrue a X.env whole = (do let v ← whole; standAt a.pos; holding [v] (truthy v)) := by intro _; rfl) : PTD X a (dTruth f) := (pt_truth h he).imp fun σ H Q ⟨B, δ, k, hB, S, q, kk⟩ => by
  unfold dTruth at q
  cases e : f δ with
  | none => rw [e] at q; cases q
  | some d =>
    rw [e] at q
    exact ⟨B, δ, d, hB, S, e, fun v H' s r => ⟨k, truth_rep r q, kk H' s⟩⟩
def dAndT (f g : DS → Option Bool) : DS → Option Bool := fun δ => (f δ).bind fun c => if c = true then g δ else some false
def dOrT (f g : DS → Option Bool) : DS → Option Bool := fun δ => (f δ).bind fun c => if c = true then some true else g δ
def dNotT (f : DS → Option Bool) : DS → Option Bool := fun δ => (f δ).map (!·)
theorem pw_or1D {f : DS → Option Bool} (h : PTD X a f) : PWD X (.BoolOp .Or [a] pos) f := pw_or1 h
theorem pw_orD {rest : List Expr} {f g : DS → Option Bool} (ha : PTD X a f) (hb : PWD X (.BoolOp .Or (b :: rest) pos) g) : PWD X (.BoolOp .Or (a :: b :: rest) pos) (dOrT f g) := (pw_or ha hb).imp fun σ H Q ⟨B, δ, k, hB, S, q, kk⟩ => by
  unfold dOrT at q
  cases e : f δ with
  | none => rw [e] at q; cases q
  | some c =>
    rw [e] at q
    refine ⟨B, δ, c, hB, S, e, fun H1 s1 => ?_⟩
    have q' : (if c = true then some true else g δ) = some k := q
    cases c with
    | true =>
      rw [if_pos rfl] at q'
      refine iteT ?_
      cases q'
      exact kk H1 s1
    | false =>
      rw [if_neg Bool.false_ne_true] at q'
      refine iteF ?_
      exact ⟨B, δ, k, hB.mono s1, S.mono s1, q', fun H2 s2 => kk H2 (s1.trans s2)⟩
theorem pt_notD {f : DS → Option Bool} (h : PTD X a f) : PTD X (.UnaryOp .Not a pos) (dNotT f) := (pt_not h).imp fun σ H Q ⟨B, δ, k, hB, S, q, kk⟩ => by
  unfold dNotT at q
  cases e : f δ with
  | none => rw [e] at q; cases q
  | some c =>
    rw [e] at q
    cases q
    exact ⟨B, δ, c, hB, S, e, kk⟩
def dAnd (f g : DE) : DE := fun δ => match f δ with
  | some (.bl true) => g δ
  | some (.bl false) => some (.bl false)
  | _ => none
def dOr (f g : DE) : DE := fun δ => match f δ with
  | some (.bl true) => some (.bl true)
  | some (.bl false) => g δ
  | _ => none
def uNot : D → Option D
  | .bl b => some (.bl (!b))
  | _ => none
theorem pd_one {op} {f : DE} (h : PD X a f) : PD X (.BoolOp op [a] pos) f := pe_one h
theorem pd_and {rest : List Expr} {f g : DE} (ha : PD X a f) (hb : PD X (.BoolOp .And (b :: rest) pos) g) : PD X (.BoolOp .And (a :: b :: rest) pos) (dAnd f g) := (pe_and ha hb).imp fun σ H Q ⟨B, δ, d, hB, S, q, k⟩ => by
  unfold dAnd at q
  split at q
  · rename_i e
    refine ⟨B, δ, .bl true, hB, S, e, fun v H1 s1 r => ⟨true, r, ?_⟩⟩
    rw [if_pos rfl]
    exact ⟨B, δ, d, hB.mono s1, S.mono s1, q, fun v2 H2 s2 r2 => k v2 H2 (s1.trans s2) r2⟩
  · rename_i e
    cases q
    refine ⟨B, δ, .bl false, hB, S, e, fun v H1 s1 r => ⟨false, r, ?_⟩⟩
    rw [if_neg Bool.false_ne_true]
    exact k _ H1 s1 rfl
  · cases q
theorem pd_not {f : DE} (h : PD X a f) : PD X (.UnaryOp .Not a pos) (d1 uNot f) := (pe_not h).imp fun σ H Q ⟨B, δ, d, hB, S, q, k⟩ => by
  obtain ⟨x, e1, e2⟩ := d1_some q
  refine ⟨B, δ, x, hB, S, e1, fun v H' s r => ?_⟩
  unfold uNot at e2
  split at e2
  · cases e2
    exact ⟨_, r, k _ H' s rfl⟩
  · cases e2
def dIf (c : DS → Option Bool) (f g : DE) : DE := fun δ => (c δ).bind fun k => if k = true then f δ else g δ
theorem pd_if {t : DS → Option Bool} {f g : DE} (hc : PTD X c t) (ha : PD X a f) (hb : PD X b g) : PD X (.IfExp c a b pos) (dIf t f g) := (pe_ifExp hc ha hb).imp fun σ H Q ⟨B, δ, d, hB, S, q, k⟩ => by
  unfold dIf at q
  cases e : t δ with
  | none => rw [e] at q; cases q
  | some c =>
    rw [e] at q
    refine ⟨B, δ, c, hB, S, e, fun H1 s1 => ?_⟩
    have q' : (if c = true then f δ else g δ) = some d := q
    cases c with
    | true =>
      rw [if_pos rfl] at q'
      refine iteT ?_
      exact ⟨B, δ, d, hB.mono s1, S.mono s1, q', fun v2 H2 s2 r2 => k v2 H2 (s1.trans s2) r2⟩
    | false =>
      rw [if_neg Bool.false_ne_true] at q'
      refine iteF ?_
      exact ⟨B, δ, d, hB.mono s1, S.mono s1, q', fun v2 H2 s2 r2 => k v2 H2 (s1.trans s2) r2⟩

/-! ### arguments, displays -/
def dArgs : List DE → DS → Option (List D)
  | [], _ => some []
  | f :: r, δ => (f δ).bind fun x => (dArgs r δ).bind fun xs => some (x :: xs)
theorem dArgs_some {f : DE} {r : List DE} {δ : DS} {ds : List D} (h : dArgs (f :: r) δ = some ds) : ∃ x xs, f δ = some x ∧ dArgs r δ = some xs ∧ ds = x :: xs := by
  unfold dArgs at h
  cases hx : f δ with
  | none => rw [hx] at h; cases h
  | some x =>
    rw [hx] at h
    have h' : ((dArgs r δ).bind fun xs => some (x :: xs)) = some ds := h
    cases hy : dArgs r δ with
    | none => rw [hy] at h'; cases h'
    | some xs =>
      rw [hy] at h'
      cases h'
      exact ⟨x, xs, rfl, rfl, rfl⟩
theorem dArgs_length : ∀ {fl : List DE} {δ : DS} {ds : List D}, dArgs fl δ = some ds → ds.length = fl.length
  | [], _, _, h => by cases h; rfl
  | f :: r, δ, ds, h => by
    obtain ⟨x, xs, _, e, rfl⟩ := dArgs_some h
    simp [dArgs_length e]
abbrev PAD (X : Cx) (es : List Expr) (fl : List DE) : Prop := PA X es (tDs X.K (dArgs fl))
theorem pad_nil : PAD X [] [] := pa_nil.imp fun σ H Q ⟨B, δ, ds, hB, S, q, k⟩ => by
  cases q
  exact k [] H (.refl H) .nil
theorem pad_cons {f : DE} {fl : List DE} (ha : PD X e f) (hr : PAD X es fl) (hs : starEach (e :: es) X.env = (false, eval e X.env) :: starEach es X.env := by rfl) : PAD X (e :: es) (f :: fl) := (pa_cons ha hr hs).imp fun σ H Q ⟨B, δ, ds, hB, S, q, k⟩ => by
  obtain ⟨x, xs, e1, e2, rfl⟩ := dArgs_some q
  exact ⟨B, δ, x, hB, S, e1, fun v H1 s1 r1 => ⟨B, δ, xs, hB.mono s1, S.mono s1, e2, fun vs H2 s2 r2 => k (v :: vs) H2 (s1.trans s2) (.cons (r1.mono s2) r2)⟩⟩
theorem pf_list {fl : List DE} (h : PAD X es fl) (hl : fl.length ≤ 1000 := by decide) : PF X (.List es pos) (dArgs fl) := (pe_lst h).imp fun σ H Q ⟨B, δ, ds, hB, S, q, k⟩ => by
  refine ⟨B, δ, ds, hB, S, q, fun vs H1 s1 r1 => ⟨?_, fun p hp => ?_⟩⟩
  · rw [← r1.length, dArgs_length q]
    exact Nat.le_of_lt (small1000 hl)
  · exact k p vs _ (s1.trans (same_upd hp)) (s1.free hp) upd_same (r1.mono (same_upd hp))
def mkT (f : DS → Option (List D)) : DE := fun δ => (f δ).map .tup

/-! ### xs[i], slices -/
def ixD : D → D → Option D
  | .lst ds, .int i => atI ds i
  | .tup ds, .int i => atI ds i
  | .scr ns, .int i => (atI ns i).map .int
  | _, _ => none
theorem atI_map {α β : Type} (f : α → β) (xs : List α) (i : Int) : atI (xs.map f) i = (atI xs i).map f := by
  unfold atI
  rw [List.length_map]
  cases ixN xs.length i with
  | none => rfl
  | some j => simp
theorem atI_reps {K : PySem.W.Frag} {H : Hp} {B : Addr → Prop} {ds : List D} {xs : List V} {i : Int} {d : D} (h : Reps K H B ds xs) (e : atI ds i = some d) : ∃ x, atI xs i = some x ∧ Rep K H B d x := by
  unfold atI at e ⊢
  rw [← h.length]
  cases q : ixN ds.length i with
  | none => rw [q] at e; cases e
  | some j =>
    rw [q] at e
    exact h.get e
theorem o2_ix {K : PySem.W.Frag} : Op2 K (rIx K) ixD := by
  intro H B dx dy d x y Q hB hx hy q k
  unfold ixD at q
  split at q
  · unfold Rep at hx
    obtain ⟨a, xs, rfl, _, s, r⟩ := hx
    obtain ⟨v, e, rv⟩ := atI_reps r q
    exact .inl ⟨a, xs, _, v, rfl, hy, SqL.of s, e, k v H (.refl H) rv⟩
  · unfold Rep at hx
    obtain ⟨a, xs, rfl, s, r⟩ := hx
    obtain ⟨v, e, rv⟩ := atI_reps r q
    exact .inr (.inl ⟨a, xs, _, v, rfl, hy, s, e, k v H (.refl H) rv⟩)
  · rename_i ns i
    unfold Rep at hx
    obtain ⟨a, rfl, s⟩ := hx
    cases e : atI ns i with
    | none => rw [e] at q; cases q
    | some n =>
      rw [e] at q
      cases q
      exact .inl ⟨a, _, _, .int n, rfl, hy, s.sq, by rw [atI_map, e]; rfl, k _ H (.refl H) rfl⟩
  · cases q
theorem pd_ix {f g : DE} (ha : PD X a f) (hb : PD X b g) (hs : PlainIx b := by intro _ _; rfl) : PD X (.Subscript a b pos) (d2 ixD f g) := (pe_ix ix_seq ha hb hs).imp (two_of o2_ix)

/-! ### a call of the text's own def -/
/-- its promise: a tree of what it was handed (R), or a tree all new (N) -/
def spR (K : PySem.W.Frag) (F : List D → Option D) : Sp := fun vs H Q _ => ∃ B ds d, InB B H ∧ Reps K H B ds vs ∧ F ds = some d ∧ ∀ v H', Same H H' → Rep K H' B d v → Q v H'
def spN (K : PySem.W.Frag) (F : List D → Option D) : Sp := fun vs H Q _ => ∃ ds d, Reps K H noB ds vs ∧ F ds = some d ∧ ∀ v H' A, Same H H' → Tree K H' d v A → A.Nodup → (∀ a ∈ A, H a = none) → Q v H'
structure DefOk (P : Program) (w : World) (K : PySem.W.Frag) (mg : Str → Option Value) (base : Heap) (k : Nat) (x : Str) (sp : Sp) : Prop where
  ok : ∃ (f : Addr) (fd : FuncData) (ps : List Str), mg x = some (.ref f) ∧ PySem.W.keepIn K (.ref f) = true ∧ Binds K fd ps [] ∧ FnOk P w K mg base CX0 k f fd ps sp
def dCall (F : List D → Option D) (fl : List DE) : DE := fun δ => (dArgs fl δ).bind F
theorem dCall_some {F : List D → Option D} {fl : List DE} {δ : DS} {d : D} (h : dCall F fl δ = some d) : ∃ ds, dArgs fl δ = some ds ∧ F ds = some d := by
  unfold dCall at h
  cases q : dArgs fl δ with
  | none => rw [q] at h; cases h
  | some ds => rw [q] at h; exact ⟨ds, rfl, h⟩
end
end L2

/-! ### E4: calls, walks and comprehensions by trees -/
namespace L2
open PySem PySem.Spec PyProof.Rows
section
variable {X : Cx} {e a b c : Expr} {es : List Expr} {pos p : Pos} {x : Str} {k : Nat} {tg iter elt : Expr}

/-! ### calls of the text's own defs -/
theorem pe_callD {sp : Sp} {t : TA} (G : DefOk X.prog X.w X.K X.mg X.base k x sp) (hr : Room k X.A) (hg : Gl X x) (ha : PA X (e :: es) t) (hdb : (x == ("__debug__" : Str)) = false := by decide)
    (he : starEach (e :: es) X.env = (false, eval e X.env) :: starEach es X.env := by rfl) (hpl : (backTo pos (starEach es X.env)).any (·.1) = false := by rfl) : PE X (.Call (.Name x p) (e :: es) [] pos) (tCall sp [] E0 t) := by
  obtain ⟨f, fd, ps, hm, hk, hb, ok⟩ := G.ok
  exact pe_call ok hr hg hm hk hb .nil pass0 ha hdb he hpl
theorem pd_callR {F : List D → Option D} {fl : List DE} (G : DefOk X.prog X.w X.K X.mg X.base k x (spR X.K F)) (hr : Room k X.A) (hg : Gl X x) (ha : PAD X (e :: es) fl) (hdb : (x == ("__debug__" : Str)) = false := by decide)
    (he : starEach (e :: es) X.env = (false, eval e X.env) :: starEach es X.env := by rfl) (hpl : (backTo pos (starEach es X.env)).any (·.1) = false := by rfl) : PD X (.Call (.Name x p) (e :: es) [] pos) (dCall F fl) :=
  (pe_callD G hr hg ha hdb he hpl).imp fun σ H Q ⟨B, δ, d, hB, S, q, k⟩ => by
    obtain ⟨ds, e1, e2⟩ := dCall_some q
    refine ⟨B, δ, ds, hB, S, e1, fun vs H1 s1 r1 => ?_⟩
    show spR X.K F (vs ++ []) H1 Q E0
    rw [List.append_nil]
    exact ⟨B, ds, d, hB.mono s1, r1, e2, fun v H' s' r => k v H' (s1.trans s') r⟩
theorem pn_callN {F : List D → Option D} {fl : List DE} (G : DefOk X.prog X.w X.K X.mg X.base k x (spN X.K F)) (hr : Room k X.A) (hg : Gl X x) (ha : PAD X (e :: es) fl) (hdb : (x == ("__debug__" : Str)) = false := by decide)
    (he : starEach (e :: es) X.env = (false, eval e X.env) :: starEach es X.env := by rfl) (hpl : (backTo pos (starEach es X.env)).any (·.1) = false := by rfl) : PN X (.Call (.Name x p) (e :: es) [] pos) (dCall F fl) :=
  (pe_callD G hr hg ha hdb he hpl).imp fun σ H Q ⟨δ, d, S, q, k⟩ => by
    obtain ⟨ds, e1, e2⟩ := dCall_some q
    refine ⟨noB, δ, ds, .no, S, e1, fun vs H1 s1 r1 => ?_⟩
    show spN X.K F (vs ++ []) H1 Q E0
    rw [List.append_nil]
    exact ⟨ds, d, r1, e2, fun v H' A s' t nd fr => k v H' A (s1.trans s') t nd fun a ha => s1.free (fr a ha)⟩

/-! ### what is walked, by trees -/
structure ItD (K : PySem.W.Frag) (J : It) (H : Hp) (B : Addr → Prop) (ds : List D) : Prop where
  go : ∀ i H', Keep K B H H' → i < ds.length → J.go i H'
  stop : ∀ i H', Keep K B H H' → ds.length ≤ i → J.stop i H'
  yld : ∀ i H' x H2, Keep K B H H' → J.yld i H' x H2 → Same H' H2 ∧ ∃ d, (i < ds.length → ds[i]? = some d) ∧ Rep K H2 B d x
/-- also where what is not there yet is not gone through -/
def ItW (K : PySem.W.Frag) (J : It) (H : Hp) (B : Addr → Prop) (ds : List D) : Prop := ∀ C : Addr → Prop, (∀ a, C a → H a = none) → ItD K J H (fun a => B a ∨ C a) ds
def tI (K : PySem.W.Frag) (f : DS → Option (List D)) : TI := fun σ H R => ∃ B δ ds, InB B H ∧ RepS K H B σ δ ∧ f δ = some ds ∧ ∀ J H', Same H H' → ItW K J H' B ds → R J H'
abbrev PID (X : Cx) (tg iter : Expr) (f : DS → Option (List D)) : Prop := PI X tg iter (tI X.K f)
theorem PI.imp {wi wi' : TI} (h : PI X tg iter wi) (w : ∀ σ H R, wi' σ H R → wi σ H R) : PI X tg iter wi' := fun pins s σ H R I q => h pins s σ H R I (w σ H R q)
/-- a list or a tuple -/
def iSeq (K : PySem.W.Frag) (tl : TE) : TI := fun σ H R => tl σ H fun x H1 => ∃ a, x = .ref a ∧ (((∃ xs, SqL K H1 a xs) ∧ R (Itl K a) H1) ∨ ((∃ xs, SqT K H1 a xs) ∧ R (Itt K a) H1))
theorem pi_seq {l : Expr} {tl : TE} (hl : PE X l tl) : PI X tg l (iSeq X.K tl) := by
  intro pins s σ H R I h
  refine thn (hl pins s σ H _ I h) fun v s1 ⟨x, H1, I1, r1, q1⟩ => ?_
  obtain ⟨a, e, q1⟩ := q1
  subst e
  cases r1
  have fp : ∀ b ∈ [s1.heap.objs.size], FpOk X pins H1 b := fun b hb => by
    have e : b = s1.heap.objs.size := by simpa using hb
    subst e
    exact I1.fpOk (Nat.le_refl _) (I1.hok.fresh (Nat.le_refl _))
  rcases q1 with ⟨⟨xs, hq⟩, q⟩ | ⟨⟨xs, hq⟩, q⟩
  · obtain ⟨its, rv, p, hz⟩ := I1.list hq
    refine wpAny_pyIter_list p.isList ?_
    exact ⟨s1.heap.objs.size, [s1.heap.objs.size], _, _, H1, rfl, I1.kept (t' := s1.toks) fun b o e => Heap.get?_push_of_some _ e, turn_list a _, ⟨_, Heap.get?_push_size _ rfl, rfl, rfl⟩, fp, q⟩
  · obtain ⟨its, rv, p, hz⟩ := I1.tuple hq
    refine wpAny_pyIter_tuple (show s1.heap.IsTuple a its.toArray from p) ?_
    exact ⟨s1.heap.objs.size, [s1.heap.objs.size], _, _, H1, rfl, I1.kept (t' := s1.toks) fun b o e => Heap.get?_push_of_some _ e, turn_tuple a _, ⟨_, Heap.get?_push_size _ rfl, rfl, rfl⟩, fp, q⟩
def seqD : D → Option (List D)
  | .lst ds => some ds
  | .tup ds => some ds
  | .scr ns => some (ns.map .int)
  | _ => none
def dSeq (f : DE) : DS → Option (List D) := fun δ => (f δ).bind seqD
theorem itd_list {K : PySem.W.Frag} {H : Hp} {B : Addr → Prop} {a : Addr} {xs : List V} {ds : List D} (n : ¬ B a) (h : H a = some (.lst xs)) (r : Reps K H B ds xs) : ItD K (Itl K a) H B ds := by
  have hl := r.length
  refine ⟨fun i H' kp hi => ?_, fun i H' kp hi => ?_, fun i H' x H2 kp y => ?_⟩
  · exact ⟨xs, xs[i], SqL.of (kp.sl a xs n h), by rw [List.getElem?_eq_getElem]⟩
  · exact ⟨xs, SqL.of (kp.sl a xs n h), by omega⟩
  · obtain ⟨e, y⟩ := y
    subst e
    have hx := y xs (SqL.of (kp.sl a xs n h))
    obtain ⟨d, e, rd⟩ := (Reps.keep kp ds r).get' hx
    exact ⟨.refl _, d, fun _ => e, rd⟩
theorem itd_tup {K : PySem.W.Frag} {H : Hp} {B : Addr → Prop} {a : Addr} {xs : List V} {ds : List D} (h : SqT K H a xs) (r : Reps K H B ds xs) : ItD K (Itt K a) H B ds := by
  have hl := r.length
  refine ⟨fun i H' kp hi => ?_, fun i H' kp hi => ?_, fun i H' x H2 kp y => ?_⟩
  · exact ⟨xs, xs[i], kp.st a xs h, by rw [List.getElem?_eq_getElem]⟩
  · exact ⟨xs, kp.st a xs h, by omega⟩
  · obtain ⟨e, y⟩ := y
    subst e
    have hx := y xs (kp.st a xs h)
    obtain ⟨d, e, rd⟩ := (Reps.keep kp ds r).get' hx
    exact ⟨.refl _, d, fun _ => e, rd⟩
theorem reps_ints {K : PySem.W.Frag} {H : Hp} {B : Addr → Prop} : ∀ ns : List Int, Reps K H B (ns.map D.int) (ns.map V.int)
  | [] => .nil
  | n :: ns => .cons rfl (reps_ints ns)
theorem itd_scr {K : PySem.W.Frag} {H : Hp} {B : Addr → Prop} {a : Addr} {ns : List Int} (h : SqF K H a (ns.map V.int)) : ItD K (Itl K a) H B (ns.map D.int) := by
  have r : ∀ H', Reps K H' B (ns.map D.int) (ns.map V.int) := fun _ => reps_ints ns
  refine ⟨fun i H' kp hi => ?_, fun i H' kp hi => ?_, fun i H' x H2 kp y => ?_⟩
  · exact ⟨ns.map V.int, (ns.map V.int)[i]'(by simpa using hi), (kp.sf a _ h).sq, by rw [List.getElem?_eq_getElem]⟩
  · exact ⟨ns.map V.int, (kp.sf a _ h).sq, by simpa using hi⟩
  · obtain ⟨e, y⟩ := y
    subst e
    have hx := y _ (kp.sf a _ h).sq
    obtain ⟨d, e, rd⟩ := (r _).get' hx
    exact ⟨.refl _, d, fun _ => e, rd⟩
theorem pi_seqD {l : Expr} {f : DE} (h : PD X l f) : PID X tg l (dSeq f) := (pi_seq h).imp fun σ H R ⟨B, δ, ds, hB, S, q, k⟩ => by
  unfold dSeq at q
  cases e : f δ with
  | none => rw [e] at q; cases q
  | some d =>
    rw [e] at q
    have q' : seqD d = some ds := q
    refine ⟨B, δ, d, hB, S, e, fun v H1 s1 r1 => ?_⟩
    unfold seqD at q'
    split at q'
    · cases q'
      unfold Rep at r1
      obtain ⟨a, xs, rfl, n, h, r⟩ := r1
      exact ⟨a, rfl, .inl ⟨⟨xs, SqL.of h⟩, k _ H1 s1 fun C hC => itd_list (fun z => z.elim n fun z => by rw [hC a z] at h; cases h) h (Reps.wide hC _ r)⟩⟩
    · cases q'
      unfold Rep at r1
      obtain ⟨a, xs, rfl, h, r⟩ := r1
      exact ⟨a, rfl, .inr ⟨⟨xs, h⟩, k _ H1 s1 fun C hC => itd_tup h (Reps.wide hC _ r)⟩⟩
    · cases q'
      unfold Rep at r1
      obtain ⟨a, rfl, h⟩ := r1
      exact ⟨a, rfl, .inl ⟨⟨_, h.sq⟩, k _ H1 s1 fun C hC => itd_scr h⟩⟩
    · cases q'
/-- lo, lo + 1, .. -/
def rngL (lo : Int) (n : Nat) : List D := (List.range n).map fun i => .int (lo + (i : Nat))
theorem rngL_get {lo : Int} {n i : Nat} (h : i < n) : (rngL lo n)[i]? = some (.int (lo + i)) := by
  unfold rngL
  rw [List.getElem?_map, List.getElem?_range h]
  rfl
theorem rngL_length (lo : Int) (n : Nat) : (rngL lo n).length = n := by unfold rngL; rw [List.length_map, List.length_range]
theorem itd_rng {K : PySem.W.Frag} {H : Hp} {B : Addr → Prop} {lo : Int} {n : Nat} : ItD K (Itr lo n) H B (rngL lo n) := by
  refine ⟨fun i H' _ hi => ?_, fun i H' _ hi => ?_, fun i H' x H2 _ y => ?_⟩
  · rw [rngL_length] at hi; exact hi
  · rw [rngL_length] at hi; exact hi
  · obtain ⟨e, y⟩ := y
    subst e y
    exact ⟨.refl _, .int (lo + i), fun h => rngL_get (by rwa [rngL_length] at h), rfl⟩
def dRng1 (f : DE) : DS → Option (List D) := fun δ => match f δ with
  | some (.int j) => if -(2 ^ 62) ≤ j ∧ j < 2 ^ 62 then some (rngL 0 j.toNat) else none
  | _ => none
def dRng2 (f g : DE) : DS → Option (List D) := fun δ => match f δ, g δ with
  | some (.int i), some (.int j) => if -(2 ^ 62) ≤ i ∧ i < 2 ^ 62 ∧ -(2 ^ 62) ≤ j ∧ j < 2 ^ 62 then some (rngL i (j - i).toNat) else none
  | _, _ => none
theorem pi_rng1 {f : DE} (hg : Gl X "range") (hm : X.mg "range" = none) (ha : PD X a f) (hs : starEach [a] X.env = [(false, eval a X.env)] := by rfl) : PID X tg (.Call (.Name "range" p) [a] [] pos) (dRng1 f) :=
  (pi_range1 hg hm (pad_cons ha pad_nil hs) hs).imp fun σ H R ⟨B, δ, ds, hB, S, q, k⟩ => by
    unfold dRng1 at q
    split at q
    · rename_i j e
      split at q
      · rename_i hj
        cases q
        have ea : dArgs [f] δ = some [.int j] := by unfold dArgs; rw [e]; rfl
        refine ⟨B, δ, [.int j], hB, S, ea, fun vs H1 s1 r1 => ?_⟩
        unfold Reps at r1
        obtain ⟨x, r, rfl, rx, rr⟩ := r1
        unfold Reps at rr
        subst rr
        exact ⟨j, by rw [show x = V.int j from rx], hj.1, hj.2, k _ H1 s1 fun C _ => itd_rng⟩
      · cases q
    · cases q
theorem pi_rng2 {f g : DE} (hg : Gl X "range") (hm : X.mg "range" = none) (ha : PD X a f) (hb : PD X b g) (hs : starEach [a, b] X.env = [(false, eval a X.env), (false, eval b X.env)] := by rfl) (hs2 : starEach [b] X.env = [(false, eval b X.env)] := by rfl) :
    PID X tg (.Call (.Name "range" p) [a, b] [] pos) (dRng2 f g) :=
  (pi_range2 hg hm (pad_cons ha (pad_cons hb pad_nil hs2) (by rw [hs, hs2])) hs hs2).imp fun σ H R ⟨B, δ, ds, hB, S, q, k⟩ => by
    unfold dRng2 at q
    split at q
    · rename_i i j e e'
      split at q
      · rename_i hj
        cases q
        have ea : dArgs [f, g] δ = some [.int i, .int j] := by unfold dArgs dArgs; rw [e, e']; rfl
        refine ⟨B, δ, [.int i, .int j], hB, S, ea, fun vs H1 s1 r1 => ?_⟩
        unfold Reps at r1
        obtain ⟨x, r, rfl, rx, rr⟩ := r1
        unfold Reps at rr
        obtain ⟨y, r', rfl, ry, rr⟩ := rr
        unfold Reps at rr
        subst rr
        exact ⟨i, j, by rw [show x = V.int i from rx, show y = V.int j from ry], hj, k _ H1 s1 fun C _ => itd_rng⟩
      · cases q
    · cases q

/-! ### [elt for x in iter if c] -/
def consO : Option D → List D → List D
  | some y, ys => y :: ys
  | none, ys => ys
def compL (h : D → Option (Option D)) : List D → Option (List D)
  | [] => some []
  | x :: r => (h x).bind fun o => (compL h r).bind fun ys => some (consO o ys)
theorem compL_cons {h : D → Option (Option D)} {x : D} {r ds : List D} (e : compL h (x :: r) = some ds) : ∃ o ys, h x = some o ∧ compL h r = some ys ∧ ds = consO o ys := by
  unfold compL at e
  cases q : h x with
  | none => rw [q] at e; cases e
  | some o =>
    rw [q] at e
    have e' : ((compL h r).bind fun ys => some (consO o ys)) = some ds := e
    cases q' : compL h r with
    | none => rw [q'] at e'; cases e'
    | some ys =>
      rw [q'] at e'
      exact ⟨o, ys, rfl, rfl, (Option.some.inj e').symm⟩
def dComp (fi : DS → Option (List D)) (fc : DS → Option Bool) (fe : DE) : DS → Option (List D) := fun δ => (fi δ).bind fun xs => if xs.length ≤ sizeLine then
  compL (fun x => (fc (δ ++ [some x])).bind fun k => if k = true then (fe (δ ++ [some x])).map some else some none) xs else none
def dYes : DS → Option Bool := fun _ => some true
theorem pifs_nilD {X : Cx} : PIfs X [] (tT X.K dYes) := fun pins s σ H Q I ⟨B, δ, b, hB, S, q, k⟩ => pifs_nil pins s σ H Q I (by cases q; exact k H (.refl H))
theorem pifs_oneD {X : Cx} {c : Expr} {f : DS → Option Bool} (h : PTD X c f) : PIfs X [c] (tT X.K f) := pifs_one h

theorem RepS.snoc {K : PySem.W.Frag} {H : Hp} {B : Addr → Prop} {σ : St} {δ : DS} {d : D} {v : V} (S : RepS K H B σ δ) (r : Rep K H B d v) : RepS K H B (σ ++ [some v]) (δ ++ [some d]) := by
  refine ⟨by simp [S.len], fun i d' e => ?_⟩
  by_cases hi : i < δ.length
  · rw [List.getElem?_append_left hi] at e
    obtain ⟨w, e', r'⟩ := S.get i d' e
    exact ⟨w, by rw [List.getElem?_append_left (by rw [← S.len]; exact hi)]; exact e', r'⟩
  · by_cases hj : i = δ.length
    · subst hj
      rw [List.getElem?_append_right (Nat.le_refl _), Nat.sub_self] at e
      cases e
      refine ⟨v, ?_, r⟩
      rw [S.len, List.getElem?_append_right (Nat.le_refl _), Nat.sub_self]
      rfl
    · rw [List.getElem?_eq_none (by simp; omega)] at e
      cases e
theorem RepS.keep {K : PySem.W.Frag} {H H' : Hp} {B : Addr → Prop} {σ : St} {δ : DS} (h : RepS K H B σ δ) (kp : Keep K B H H') : RepS K H' B σ δ :=
  ⟨h.len, fun i d q => let ⟨v, a, r⟩ := h.get i d q; ⟨v, a, Rep.keep kp d r⟩⟩
theorem RepS.wide {K : PySem.W.Frag} {H : Hp} {B C : Addr → Prop} {σ : St} {δ : DS} (h : RepS K H B σ δ) (hc : ∀ a, C a → H a = none) : RepS K H (fun a => B a ∨ C a) σ δ :=
  ⟨h.len, fun i d q => let ⟨v, a, r⟩ := h.get i d q; ⟨v, a, Rep.wide hc d r⟩⟩
theorem Keep.trans {K : PySem.W.Frag} {B : Addr → Prop} {H H1 H2 : Hp} (a : Keep K B H H1) (b : Keep K B H1 H2) : Keep K B H H2 :=
  ⟨fun x xs n h => b.sl x xs n (a.sl x xs n h), fun x xs h => b.st x xs (a.st x xs h), fun x xs h => b.sf x xs (a.sf x xs h), fun x xs n h => b.sd x xs n (a.sd x xs n h), fun x xs n h => b.sx x xs n (a.sx x xs n h)⟩
theorem Keep.anti {K : PySem.W.Frag} {B B' : Addr → Prop} {H H1 : Hp} (a : Keep K B H H1) (h : ∀ x, B x → B' x) : Keep K B' H H1 :=
  ⟨fun x xs n q => a.sl x xs (fun z => n (h x z)) q, a.st, a.sf, fun x xs n q => a.sd x xs (fun z => n (h x z)) q, fun x xs n q => a.sx x xs (fun z => n (h x z)) q⟩
theorem set_snoc {w v : Option V} : ∀ {σ : St}, (σ ++ [w]).set σ.length v = σ ++ [v]
  | [] => rfl
  | x :: r => congrArg (x :: ·) (set_snoc (σ := r))

variable {N' : List Str} {sc : Scope} {ifs : List Expr} {n : Nat} {px : Pos} {fi : DS → Option (List D)} {fc : DS → Option Bool} {fe : DE}

theorem comp_ofF {σ : St} {H : Hp} {Q : VK} (hσ : σ.length = n) (hq : tF X.K (dComp fi fc fe) σ H Q) : tComp (tI X.K fi) (gName n) (tT X.K fc) (tD X.K fe) 1 σ H Q := by
  obtain ⟨B, δ, ds, hB, Sδ, q, k⟩ := hq
  unfold dComp at q
  cases e1 : fi δ with
  | none => rw [e1] at q; cases q
  | some xs =>
  rw [e1] at q
  have q1 : (if xs.length ≤ sizeLine then compL (fun x => (fc (δ ++ [some x])).bind fun k => if k = true then (fe (δ ++ [some x])).map some else some none) xs else none) = some ds := q
  split at q1
  case isFalse => cases q1
  case isTrue hsz =>
  refine ⟨B, δ, xs, hB, Sδ, e1, fun J H1 s1 itw => fun Da hD => ?_⟩
  have hD0 : H Da = none := s1.free hD
  have it := itw (fun a => a = Da) fun a ha => by rw [ha]; exact hD
  have Sw : RepS X.K H1 (fun a => B a ∨ a = Da) σ δ := (Sδ.mono s1).wide fun a ha => by rw [ha]; exact hD
  -- within the block the new list is not gone through
  refine ⟨fun i m σ' H' => m = xs.length - i ∧ i ≤ xs.length ∧ (∃ w, σ' = σ ++ [w]) ∧ Same H1 H' ∧ ∃ ys dn rs, H' Da = some (.lst ys) ∧ Reps X.K H' (fun a => B a ∨ a = Da) dn ys ∧ ds = dn ++ rs ∧ dn.length ≤ i ∧
    compL (fun x => (fc (δ ++ [some x])).bind fun k => if k = true then (fe (δ ++ [some x])).map some else some none) (xs.drop i) = some rs,
    ⟨xs.length, by simp, Nat.zero_le _, ⟨none, rfl⟩, same_upd hD, [], [], ds, upd_same, .nil, rfl, Nat.le_refl _, q1⟩, ?_⟩
  rintro i m σ' H' ⟨rfl, hi', ⟨w, rfl⟩, sm, ys, dn, rs, hys, rys, hds, hln, hrs⟩
  have kp : Keep X.K (fun a => B a ∨ a = Da) H1 H' := .same sm
  by_cases hlt : i < xs.length
  · refine .inr ⟨it.go i H' kp hlt, fun σ'' H'' => (i + 1 ≤ xs.length ∧ (∃ w, σ'' = σ ++ [w]) ∧ Same H1 H'' ∧ ∃ ys dn rs, H'' Da = some (.lst ys) ∧ Reps X.K H'' (fun a => B a ∨ a = Da) dn ys ∧ ds = dn ++ rs ∧ dn.length ≤ i + 1 ∧
      compL (fun x => (fc (δ ++ [some x])).bind fun k => if k = true then (fe (δ ++ [some x])).map some else some none) (xs.drop (i + 1)) = some rs), fun σ'' H'' h => ⟨xs.length - (i + 1), by omega, rfl, h⟩, fun xv H2 hy => ?_⟩
    obtain ⟨s2, d, hd, rd⟩ := it.yld i H' xv H2 kp hy
    have hdi := hd hlt
    have hx : xs.drop i = d :: xs.drop (i + 1) := by
      obtain ⟨hl, e⟩ := List.getElem?_eq_some_iff.mp hdi
      rw [List.drop_eq_getElem_cons hl, e]
    rw [hx] at hrs
    obtain ⟨o, rs', e2, e3, e4⟩ := compL_cons hrs
    show tT X.K fc ((σ ++ [w]).set n (some xv)) H2 _
    rw [← hσ, set_snoc]
    have hB1 : InB (fun a => B a ∨ a = Da) H2 := fun a ha => ha.elim (fun z => (((hB.mono s1).mono sm).mono s2) a z) fun z => ⟨_, s2 _ _ (z ▸ hys)⟩
    have S2 : RepS X.K H2 (fun a => B a ∨ a = Da) (σ ++ [some xv]) (δ ++ [some d]) := ((Sw.mono sm).mono s2).snoc rd
    have hl2 : ys.length < sizeLine := by
      have := rys.length
      omega
    cases ec : fc (δ ++ [some d]) with
    | none => rw [ec] at e2; cases e2
    | some kk =>
      rw [ec] at e2
      have e2' : (if kk = true then (fe (δ ++ [some d])).map some else some none) = some o := e2
      refine ⟨_, δ ++ [some d], kk, hB1, S2, ec, fun H3 s3 => ?_⟩
      cases kk with
      | false =>
        rw [if_neg Bool.false_ne_true] at e2'
        rw [if_neg Bool.false_ne_true]
        cases e2'
        exact ⟨hlt, ⟨_, rfl⟩, (sm.trans s2).trans s3, ys, dn, rs', s3 _ _ (s2 _ _ hys), (rys.mono s2).mono s3, by rw [hds, e4]; rfl, Nat.le_succ_of_le hln, e3⟩
      | true =>
        rw [if_pos rfl] at e2'
        rw [if_pos rfl]
        cases ey : fe (δ ++ [some d]) with
        | none => rw [ey] at e2'; cases e2'
        | some y =>
          rw [ey] at e2'
          cases e2'
          refine ⟨_, δ ++ [some d], y, hB1.mono s3, S2.mono s3, ey, fun yv H5 s5 r5 => ⟨ys, s5 _ _ (s3 _ _ (s2 _ _ hys)), hl2, ?_⟩⟩
          have hu : H5 Da = some (.lst ys) := s5 _ _ (s3 _ _ (s2 _ _ hys))
          refine ⟨hlt, ⟨_, rfl⟩, fun b u hb => ?_, ys ++ [yv], dn ++ [y], rs', upd_same, ?_, by rw [hds, e4, List.append_assoc]; rfl, by rw [List.length_append]; simp; omega, e3⟩
          · rw [upd_ne (ne_of_none hb hD)]
            exact s5 _ _ (s3 _ _ (s2 _ _ (sm _ _ hb)))
          · exact Reps.keep (.upd (.inr rfl) (by rw [hu]; exact trivial)) _ (((rys.mono s2).mono s3 |>.mono s5).snoc r5)
  · have e : i = xs.length := by omega
    subst e
    refine .inl ⟨it.stop _ H' kp (Nat.le_refl _), ?_⟩
    rw [List.drop_length] at hrs
    cases hrs
    rw [List.append_nil] at hds
    subst hds
    exact k Da ys H' (s1.trans sm) hD0 hys (rys.anti fun a z => .inl z)
theorem pf_comp (hc : X.calm = true) (S : CompScope X.N X.env.scope.names N' 1 sc) (hn : n = X.N.length) (hi : PID X (.Name x px) iter fi)
    (hg : ∀ s H fp pins E, PG (cxComp X N' sc s H fp pins E) (.Name x px) (gName n)) (ht : ∀ s H fp pins E, PIfs (cxComp X N' sc s H fp pins E) ifs (tT X.K fc)) (he : ∀ s H fp pins E, PE (cxComp X N' sc s H fp pins E) elt (tD X.K fe))
    (hs : ∀ x, foldedSetIterable iter X.env x = pure x := by intro _; rfl) : PF X (.ListComp elt [⟨.Name x px, iter, ifs, 0⟩] sc pos) (dComp fi fc fe) := by
  intro pins s σ H Q I hq
  exact pe_comp hc S hi ⟨hg, ht, he⟩ hs pins s σ H Q I (comp_ofF (by rw [hn, I.len]) hq)
end
end L2

/-! ### E5: statements by trees; each slot shared, owned (its lists are the def's own, and no one else's), or lent by an owned one -/
namespace L2
open PySem PySem.Spec PyProof.Rows

inductive SD where
  | sh (d : D) | ow (d : D) | bo (r : Nat) (d : D)
abbrev SS := List (Option SD)
def SD.val : SD → D
  | .sh d => d
  | .ow d => d
  | .bo _ d => d
/-- what a look may see: all; the shared alone -/
def allV (δ : SS) : DS := δ.map (Option.map SD.val)
def shO : Option SD → Option D
  | some (.sh d) => some d
  | _ => none
def shV (δ : SS) : DS := δ.map shO

structure RS (K : PySem.W.Frag) (H0 : Hp) (B0 : Addr → Prop) (H : Hp) (σ : St) (δ : SS) (R : Nat → List Addr) : Prop where
  keep : Same H0 H
  inB : InB B0 H0
  len : δ.length = σ.length
  new : ∀ r a, a ∈ R r → H0 a = none
  held : ∀ r a, a ∈ R r → ∃ o, H a = some o ∧ Mut (some o)
  disj : ∀ r s a, a ∈ R r → a ∈ R s → r = s
  sh : ∀ (i : Nat) (d : D), δ[i]? = some (some (.sh d)) → ∃ v, σ[i]? = some (some v) ∧ Rep K H (fun a => B0 a ∨ ∃ r, a ∈ R r) d v
  bo : ∀ (i r : Nat) (d : D), δ[i]? = some (some (.bo r d)) → ∃ v, σ[i]? = some (some v) ∧ Rep K H (fun a => B0 a ∨ ∃ s, s ≠ r ∧ a ∈ R s) d v
  ow : ∀ (i : Nat) (d : D), δ[i]? = some (some (.ow d)) → ∃ v, σ[i]? = some (some v) ∧ Tree K H d v (R i) ∧ (R i).Nodup
/-- what a step may do -/
structure Stp (R : Nat → List Addr) (H : Hp) (R' : Nat → List Addr) (H' : Hp) : Prop where
  keep : ∀ a o, H a = some o → (∀ r, a ∉ R r) → H' a = some o
  from' : ∀ r a, a ∈ R' r → (∃ s, a ∈ R s) ∨ H a = none
  there : ∀ a, H' a = none → H a = none
theorem Stp.refl (R : Nat → List Addr) (H : Hp) : Stp R H R H := ⟨fun _ _ h _ => h, fun r _ h => .inl ⟨r, h⟩, fun _ h => h⟩
theorem Stp.trans {R R1 R2 : Nat → List Addr} {H H1 H2 : Hp} (a : Stp R H R1 H1) (b : Stp R1 H1 R2 H2) : Stp R H R2 H2 := by
  refine ⟨fun x o h n => b.keep x o (a.keep x o h n) fun r hr => ?_, fun r x h => ?_, fun x h => a.there x (b.there x h)⟩
  · rcases a.from' r x hr with ⟨s, z⟩ | z
    · exact n s z
    · rw [h] at z; cases z
  · rcases b.from' r x h with ⟨s, z⟩ | z
    · exact a.from' s x z
    · exact .inr (a.there x z)
theorem Stp.same {R : Nat → List Addr} {H H' : Hp} (e : Same H H') : Stp R H R H' := ⟨fun a o h _ => e a o h, fun r _ h => .inl ⟨r, h⟩, fun _ h => e.free h⟩

section
variable {K : PySem.W.Frag} {H0 H H' : Hp} {B0 : Addr → Prop} {σ : St} {δ : SS} {R : Nat → List Addr}
theorem allV_get {i : Nat} {d : D} (h : (allV δ)[i]? = some (some d)) : ∃ x, δ[i]? = some (some x) ∧ x.val = d := by
  unfold allV at h
  rw [List.getElem?_map] at h
  cases e : δ[i]? with
  | none => rw [e] at h; cases h
  | some o =>
    rw [e] at h
    cases o with
    | none => cases h
    | some x => cases h; exact ⟨x, rfl, rfl⟩
theorem shV_get {i : Nat} {d : D} (h : (shV δ)[i]? = some (some d)) : δ[i]? = some (some (.sh d)) := by
  unfold shV at h
  rw [List.getElem?_map] at h
  cases e : δ[i]? with
  | none => rw [e] at h; cases h
  | some o =>
    rw [e] at h
    have h' : shO o = some d := Option.some.inj h
    unfold shO at h'
    split at h'
    · cases h'; rfl
    · cases h'
theorem RS.all (h : RS K H0 B0 H σ δ R) : RepS K H noB σ (allV δ) := by
  refine ⟨by unfold allV; rw [List.length_map]; exact h.len, fun i d e => ?_⟩
  obtain ⟨x, e', rfl⟩ := allV_get e
  cases x with
  | sh d =>
    obtain ⟨v, e1, r⟩ := h.sh i d e'
    exact ⟨v, e1, r.anti fun _ z => z.elim⟩
  | bo r d =>
    obtain ⟨v, e1, r⟩ := h.bo i r d e'
    exact ⟨v, e1, r.anti fun _ z => z.elim⟩
  | ow d =>
    obtain ⟨v, e1, t, _⟩ := h.ow i d e'
    exact ⟨v, e1, t.rep d fun _ _ z => z.elim⟩
theorem RS.shr (h : RS K H0 B0 H σ δ R) : RepS K H (fun a => B0 a ∨ ∃ r, a ∈ R r) σ (shV δ) := by
  refine ⟨by unfold shV; rw [List.length_map]; exact h.len, fun i d e => h.sh i d (shV_get e)⟩
theorem RS.inAll (h : RS K H0 B0 H σ δ R) : InB (fun a => B0 a ∨ ∃ r, a ∈ R r) H := fun a ha => by
  rcases ha with z | ⟨r, z⟩
  · exact (h.inB.mono h.keep) a z
  · obtain ⟨o, e, _⟩ := h.held r a z
    exact ⟨o, e⟩
theorem RS.mono (h : RS K H0 B0 H σ δ R) (e : Same H H') : RS K H0 B0 H' σ δ R := by
  refine ⟨h.keep.trans e, h.inB, h.len, h.new, fun r a z => ?_, h.disj, fun i d z => ?_, fun i r d z => ?_, fun i d z => ?_⟩
  · obtain ⟨o, e1, m⟩ := h.held r a z
    exact ⟨o, e a o e1, m⟩
  · obtain ⟨v, e1, r⟩ := h.sh i d z
    exact ⟨v, e1, r.mono e⟩
  · obtain ⟨v, e1, r⟩ := h.bo i r d z
    exact ⟨v, e1, r.mono e⟩
  · obtain ⟨v, e1, t, nd⟩ := h.ow i d z
    exact ⟨v, e1, t.mono e, nd⟩
/-- a slot is given something shared -/
theorem RS.setSh {i : Nat} {d : D} {v : V} (h : RS K H0 B0 H σ δ R) (r : Rep K H (fun a => B0 a ∨ ∃ r, a ∈ R r) d v) : RS K H0 B0 H (σ.set i (some v)) (δ.set i (some (.sh d))) R := by
  have gs : ∀ {α : Type} {l : List (Option α)} {i j : Nat} {x : Option α} {y : α}, (l.set i x)[j]? = some (some y) → (j = i ∧ x = some y) ∨ (j ≠ i ∧ l[j]? = some (some y)) := fun {α l i j x y} e => by
    by_cases hj : j = i
    · subst hj
      rw [List.getElem?_set] at e
      simp only [if_true] at e
      split at e
      · exact .inl ⟨rfl, Option.some.inj e⟩
      · cases e
    · rw [List.getElem?_set_ne (Ne.symm hj)] at e
      exact .inr ⟨hj, e⟩
  have up : ∀ {j : Nat} {w : V}, j ≠ i → σ[j]? = some (some w) → (σ.set i (some v))[j]? = some (some w) := fun hj e => by rw [List.getElem?_set_ne (Ne.symm hj)]; exact e
  refine ⟨h.keep, h.inB, by simp [h.len], h.new, h.held, h.disj, fun j d' z => ?_, fun j r' d' z => ?_, fun j d' z => ?_⟩
  · rcases gs z with ⟨rfl, q⟩ | ⟨hj, q⟩
    · cases q
      have hl : j < σ.length := by
        rw [← h.len]
        by_cases hl : j < δ.length
        · exact hl
        · rw [List.getElem?_eq_none (by simp; omega)] at z; cases z
      exact ⟨v, by rw [List.getElem?_set]; simp [hl], r⟩
    · obtain ⟨w, e1, r⟩ := h.sh j d' q
      exact ⟨w, up hj e1, r⟩
  · rcases gs z with ⟨rfl, q⟩ | ⟨hj, q⟩
    · cases q
    · obtain ⟨w, e1, r⟩ := h.bo j r' d' q
      exact ⟨w, up hj e1, r⟩
  · rcases gs z with ⟨rfl, q⟩ | ⟨hj, q⟩
    · cases q
    · obtain ⟨w, e1, t⟩ := h.ow j d' q
      exact ⟨w, up hj e1, t⟩
def setR (R : Nat → List Addr) (i : Nat) (A : List Addr) : Nat → List Addr := fun r => if r = i then A else R r
theorem setR_same {i : Nat} {A : List Addr} : setR R i A i = A := if_pos rfl
theorem setR_ne {i r : Nat} {A : List Addr} (h : r ≠ i) : setR R i A r = R r := if_neg h
theorem get_set {α : Type} {l : List (Option α)} {i j : Nat} {x : Option α} {y : α} (e : (l.set i x)[j]? = some (some y)) : (j = i ∧ x = some y ∧ i < l.length) ∨ (j ≠ i ∧ l[j]? = some (some y)) := by
  by_cases hj : j = i
  · subst hj
    rw [List.getElem?_set] at e
    simp only [if_true] at e
    split at e
    · rename_i hl
      exact .inl ⟨rfl, Option.some.inj e, hl⟩
    · cases e
  · rw [List.getElem?_set_ne (Ne.symm hj)] at e
    exact .inr ⟨hj, e⟩
/-- a slot is given a tree all new since Hold -/
theorem RS.setOw {Hold : Hp} {i : Nat} {d : D} {v : V} {A : List Addr} (h : RS K H0 B0 Hold σ δ R) (e : Same Hold H) (t : Tree K H d v A) (nd : A.Nodup) (fr : ∀ a ∈ A, Hold a = none) : RS K H0 B0 H (σ.set i (some v)) (δ.set i (some (.ow d))) (setR R i A) := by
  have hm := h.mono e
  have up : ∀ {j : Nat} {w : V}, j ≠ i → σ[j]? = some (some w) → (σ.set i (some v))[j]? = some (some w) := fun hj e => by rw [List.getElem?_set_ne (Ne.symm hj)]; exact e
  have hA : ∀ r a, a ∈ R r → a ∉ A := fun r a z z' => by
    obtain ⟨o, q, _⟩ := h.held r a z
    rw [fr a z'] at q; cases q
  have mem : ∀ r a, a ∈ setR R i A r → (r = i ∧ a ∈ A) ∨ (r ≠ i ∧ a ∈ R r) := fun r a z => by
    by_cases hr : r = i
    · subst hr; rw [setR_same] at z; exact .inl ⟨rfl, z⟩
    · rw [setR_ne hr] at z; exact .inr ⟨hr, z⟩
  refine ⟨hm.keep, h.inB, by simp [h.len], fun r a z => ?_, fun r a z => ?_, fun r s a z z' => ?_, fun j d' z => ?_, fun j r' d' z => ?_, fun j d' z => ?_⟩
  · rcases mem r a z with ⟨_, z⟩ | ⟨_, z⟩
    · exact h.keep.free (fr a z)
    · exact h.new r a z
  · rcases mem r a z with ⟨_, z⟩ | ⟨_, z⟩
    · exact t.held d a z
    · exact hm.held r a z
  · rcases mem r a z with ⟨h1, z⟩ | ⟨h1, z⟩ <;> rcases mem s a z' with ⟨h2, z'⟩ | ⟨h2, z'⟩
    · rw [h1, h2]
    · exact absurd z (hA s a z')
    · exact absurd z' (hA r a z)
    · exact h.disj r s a z z'
  · rcases get_set z with ⟨rfl, q, _⟩ | ⟨hj, q⟩
    · cases q
    · obtain ⟨w, e1, r⟩ := h.sh j d' q
      refine ⟨w, up hj e1, Rep.anti ?_ d' ((Rep.wide (C := fun a => a ∈ A) fr d' r).mono e)⟩
      rintro a (z | ⟨r, z⟩)
      · exact .inl (.inl z)
      · rcases mem r a z with ⟨_, z⟩ | ⟨_, z⟩
        · exact .inr z
        · exact .inl (.inr ⟨r, z⟩)
  · rcases get_set z with ⟨rfl, q, _⟩ | ⟨hj, q⟩
    · cases q
    · obtain ⟨w, e1, r⟩ := h.bo j r' d' q
      refine ⟨w, up hj e1, Rep.anti ?_ d' ((Rep.wide (C := fun a => a ∈ A) fr d' r).mono e)⟩
      rintro a (z | ⟨s, hs, z⟩)
      · exact .inl (.inl z)
      · rcases mem s a z with ⟨_, z⟩ | ⟨_, z⟩
        · exact .inr z
        · exact .inl (.inr ⟨s, hs, z⟩)
  · rcases get_set z with ⟨rfl, q, hl⟩ | ⟨hj, q⟩
    · cases q
      rw [setR_same]
      exact ⟨v, by rw [List.getElem?_set]; simp [← h.len, hl], t, nd⟩
    · obtain ⟨w, e1, t'⟩ := hm.ow j d' q
      rw [setR_ne hj]
      exact ⟨w, up hj e1, t'⟩
/-- an owned slot becomes shared -/
def frzS (i : Nat) (δ : SS) : SS := match δ[i]? with
  | some (some (.ow d)) => δ.set i (some (.sh d))
  | _ => δ
theorem RS.frz (i : Nat) (h : RS K H0 B0 H σ δ R) : ∃ R', RS K H0 B0 H σ (frzS i δ) R' ∧ ∀ r a, a ∈ R' r → a ∈ R r := by
  unfold frzS
  split
  · rename_i d e
    obtain ⟨v, e1, t, nd⟩ := h.ow i d e
    refine ⟨setR R i [], ?_, fun r a z => ?_⟩
    · have mem : ∀ r a, a ∈ setR R i [] r → r ≠ i ∧ a ∈ R r := fun r a z => by
        by_cases hr : r = i
        · subst hr; rw [setR_same] at z; cases z
        · rw [setR_ne hr] at z; exact ⟨hr, z⟩
      refine ⟨h.keep, h.inB, by simp [h.len], fun r a z => h.new r a (mem r a z).2, fun r a z => h.held r a (mem r a z).2, fun r s a z z' => h.disj r s a (mem r a z).2 (mem s a z').2, fun j d' z => ?_, fun j r' d' z => ?_, fun j d' z => ?_⟩
      · rcases get_set z with ⟨rfl, q, hl⟩ | ⟨hj, q⟩
        · cases q
          refine ⟨v, e1, t.rep d fun a ha => ?_⟩
          rintro (z | ⟨r, z⟩)
          · obtain ⟨o, q⟩ := h.inB a z
            rw [h.new j a ha] at q; cases q
          · exact (mem r a z).1 (h.disj r j a (mem r a z).2 ha)
        · obtain ⟨w, e2, r⟩ := h.sh j d' q
          exact ⟨w, e2, r.anti fun a z => z.imp id fun ⟨r, z⟩ => ⟨r, (mem r a z).2⟩⟩
      · rcases get_set z with ⟨rfl, q, _⟩ | ⟨hj, q⟩
        · cases q
        · obtain ⟨w, e2, r⟩ := h.bo j r' d' q
          exact ⟨w, e2, r.anti fun a z => z.imp id fun ⟨s, hs, z⟩ => ⟨s, hs, (mem s a z).2⟩⟩
      · rcases get_set z with ⟨rfl, q, _⟩ | ⟨hj, q⟩
        · cases q
        · rw [setR_ne hj]
          exact h.ow j d' q
    · by_cases hr : r = i
      · subst hr; rw [setR_same] at z; cases z
      · rw [setR_ne hr] at z; exact z
  · exact ⟨R, h, fun _ _ z => z⟩
end

/-! ### what comes of a statement -/
inductive Out where
  | nx (δ : SS) | bk (δ : SS) | ct (δ : SS) | rt (d : D) | ex (c : Nat) (δ : SS)
/-- what is wanted of an exception: its class, the slots and the heap where it was raised -/
abbrev XR := Nat → St → Hp → Prop
abbrev noX : XR := fun _ _ _ => False
def Ret (K : PySem.W.Frag) (H0 : Hp) (B0 : Addr → Prop) (fr : Bool) (H : Hp) (d : D) (v : V) : Prop :=
  Same H0 H ∧ (fr = true → ∃ A, Tree K H d v A ∧ A.Nodup ∧ ∀ a ∈ A, H0 a = none) ∧ (fr = false → Rep K H B0 d v)
def Aft (K : PySem.W.Frag) (H0 : Hp) (B0 : Addr → Prop) (fr : Bool) (RX : XR) (R : Nat → List Addr) (H : Hp) (D : Ends) : Out → Prop
  | .nx δ' => ∀ σ' H' R', RS K H0 B0 H' σ' δ' R' → Stp R H R' H' → D.nx σ' H'
  | .bk δ' => ∀ σ' H' R', RS K H0 B0 H' σ' δ' R' → Stp R H R' H' → D.bk σ' H'
  | .ct δ' => ∀ σ' H' R', RS K H0 B0 H' σ' δ' R' → Stp R H R' H' → D.ct σ' H'
  | .rt d => ∀ v H', Ret K H0 B0 fr H' d v → (∀ a, H' a = none → H a = none) → D.rt v H'
  | .ex c δ' => ∀ σ' H' R', RS K H0 B0 H' σ' δ' R' → Stp R H R' H' → RX c σ' H'
def tS (K : PySem.W.Frag) (H0 : Hp) (B0 : Addr → Prop) (fr : Bool) (RX : XR) (g : SS → Option Out) : TS := fun D σ H => ∃ δ R o, RS K H0 B0 H σ δ R ∧ g δ = some o ∧ Aft K H0 B0 fr RX R H D o
theorem Aft.back {K : PySem.W.Frag} {H0 : Hp} {B0 : Addr → Prop} {fr : Bool} {RX : XR} {R R1 : Nat → List Addr} {H H1 : Hp} {D : Ends} {o : Out} (h : Aft K H0 B0 fr RX R H D o) (s : Stp R H R1 H1) : Aft K H0 B0 fr RX R1 H1 D o := by
  cases o with
  | nx δ' => exact fun σ' H' R' r t => h σ' H' R' r (s.trans t)
  | bk δ' => exact fun σ' H' R' r t => h σ' H' R' r (s.trans t)
  | ct δ' => exact fun σ' H' R' r t => h σ' H' R' r (s.trans t)
  | rt d => exact fun v H' r t => h v H' r fun a z => s.there a (t a z)
  | ex c δ' => exact fun σ' H' R' r t => h σ' H' R' r (s.trans t)
theorem PS.imp {X : Cx} {st : Stmt} {t t' : TS} (h : PS X st t) (w : ∀ D σ H, t' D σ H → t D σ H) : PS X st t' := fun pins s σ H D I q => h pins s σ H D I (w D σ H q)
theorem PSs.imp {X : Cx} {st : List Stmt} {t t' : TS} (h : PSs X st t) (w : ∀ D σ H, t' D σ H → t D σ H) : PSs X st t' := fun pins s σ H D I q => h pins s σ H D I (w D σ H q)

section
variable {X : Cx} {H0 : Hp} {B0 : Addr → Prop} {fr : Bool} {RX : XR} {st : Stmt} {sts : List Stmt} {e : Expr} {pos : Pos}
def seqO (g h : SS → Option Out) : SS → Option Out := fun δ => (g δ).bind fun o => match o with
  | .nx δ' => h δ'
  | o => some o
def skipO : SS → Option Out := fun δ => some (.nx δ)
theorem ss_nil : PSs X [] (tS X.K H0 B0 fr RX skipO) := pss_nil.imp fun D σ H ⟨δ, R, o, rs, q, k⟩ => by
  cases q
  exact k σ H R rs (.refl R H)
theorem ss_cons {g h : SS → Option Out} (h1 : PS X st (tS X.K H0 B0 fr RX g)) (h2 : PSs X sts (tS X.K H0 B0 fr RX h)) : PSs X (st :: sts) (tS X.K H0 B0 fr RX (seqO g h)) := (pss_cons h1 h2).imp fun D σ H ⟨δ, R, o, rs, q, k⟩ => by
  unfold seqO at q
  cases e : g δ with
  | none => rw [e] at q; cases q
  | some o1 =>
    rw [e] at q
    refine ⟨δ, R, o1, rs, e, ?_⟩
    cases o1 with
    | nx δ' =>
      have q' : h δ' = some o := q
      exact fun σ' H' R' rs' s' => ⟨δ', R', o, rs', q', k.back s'⟩
    | bk δ' => cases q; exact k
    | ct δ' => cases q; exact k
    | rt d => cases q; exact k
    | ex c δ' => cases q; exact k
theorem ss_one {g : SS → Option Out} (h1 : PS X st (tS X.K H0 B0 fr RX g)) : PSs X [st] (tS X.K H0 B0 fr RX g) := pss_one h1

/-! ### name = e -/
abbrev PAsg (X : Cx) (st : Stmt) (i : Nat) (te : TE) : Prop := PS X st (tAsg te (gName i))
theorem PAsg.imp {i : Nat} {t t' : TE} (h : PAsg X st i t) (w : ∀ σ H Q, t' σ H Q → t σ H Q) : PAsg X st i t' := PS.imp h fun D σ H q => w σ H _ q
theorem pas_e {i : Nat} {x : Str} {te : TE} {pos' : Pos} (hN : X.N.Nodup) (hi : X.N[i]? = some x) (hx : Loc X.env.scope x) (he : PE X e te) (hs : swapsWith e (some (.Name x pos')) pos.line X.env = pure false := by rfl) (hf : X.fn x = true ∨ X.env.scope.names.lookup x = some .local := by first | exact .inl rfl | exact .inr rfl | assumption) :
    PAsg X (.Assign [.Name x pos'] e pos) i te := ps_set hN hi hx he hs hf
def asgS (i : Nat) (f : DE) : SS → Option Out := fun δ => (f (shV δ)).map fun d => .nx (δ.set i (some (.sh d)))
def asgI (i : Nat) (f : DE) : SS → Option Out := fun δ => (f (allV δ)).bind fun d => if d.imm = true then some (.nx (δ.set i (some (.sh d)))) else none
def asgN (i : Nat) (f : DE) : SS → Option Out := fun δ => (f (allV δ)).map fun d => .nx (δ.set i (some (.ow d)))
theorem s_asgS {i : Nat} {f : DE} (h : PAsg X st i (tD X.K f)) : PS X st (tS X.K H0 B0 fr RX (asgS i f)) := PS.imp h fun D σ H ⟨δ, R, o, rs, q, k⟩ => by
  unfold asgS at q
  cases e : f (shV δ) with
  | none => rw [e] at q; cases q
  | some d =>
    rw [e] at q
    cases q
    exact ⟨_, shV δ, d, rs.inAll, rs.shr, e, fun v H' s r => k _ H' R ((rs.mono s).setSh r) (.same s)⟩
theorem s_asgI {i : Nat} {f : DE} (h : PAsg X st i (tD X.K f)) : PS X st (tS X.K H0 B0 fr RX (asgI i f)) := PS.imp h fun D σ H ⟨δ, R, o, rs, q, k⟩ => by
  unfold asgI at q
  cases e : f (allV δ) with
  | none => rw [e] at q; cases q
  | some d =>
    rw [e] at q
    have q' : (if d.imm = true then some (Out.nx (δ.set i (some (.sh d)))) else none) = some o := q
    split at q'
    · rename_i hi
      cases q'
      exact ⟨noB, allV δ, d, .no, rs.all, e, fun v H' s r => k _ H' R ((rs.mono s).setSh (r.imm d hi)) (.same s)⟩
    · cases q'
theorem s_asgN {i : Nat} {f : DE} (h : PAsg X st i (tN X.K f)) : PS X st (tS X.K H0 B0 fr RX (asgN i f)) := PS.imp h fun D σ H ⟨δ, R, o, rs, q, k⟩ => by
  unfold asgN at q
  cases e : f (allV δ) with
  | none => rw [e] at q; cases q
  | some d =>
    rw [e] at q
    cases q
    refine ⟨allV δ, d, rs.all, e, fun v H' A s t nd fr' => k _ H' (setR R i A) (rs.setOw s t nd fr') ⟨fun a o h _ => s a o h, fun r a z => ?_, fun a z => s.free z⟩⟩
    by_cases hr : r = i
    · subst hr; rw [setR_same] at z; exact .inr (fr' a z)
    · rw [setR_ne hr] at z; exact .inl ⟨r, z⟩

/-! ### return -/
def retI (f : DE) : SS → Option Out := fun δ => (f (allV δ)).bind fun d => if d.imm = true then some (.rt d) else none
def retN (f : DE) : SS → Option Out := fun δ => (f (allV δ)).map .rt
def retS (f : DE) : SS → Option Out := fun δ => (f (shV δ)).map .rt
def retO (i : Nat) : SS → Option Out := fun δ => match δ[i]? with
  | some (some (.ow d)) => some (.rt d)
  | _ => none
theorem s_retI {f : DE} (h : PD X e f) : PS X (.Return (some e) pos) (tS X.K H0 B0 fr RX (retI f)) := PS.imp (ps_ret h) fun D σ H ⟨δ, R, o, rs, q, k⟩ => by
  unfold retI at q
  cases e : f (allV δ) with
  | none => rw [e] at q; cases q
  | some d =>
    rw [e] at q
    have q' : (if d.imm = true then some (Out.rt d) else none) = some o := q
    split at q'
    · rename_i hi
      cases q'
      exact ⟨noB, allV δ, d, .no, rs.all, e, fun v H' s r => k v H' ⟨rs.keep.trans s, fun _ => ⟨[], r.immTree d hi, List.nodup_nil, (fun a z => nomatch z)⟩, fun _ => r.imm d hi⟩ fun a z => s.free z⟩
    · cases q'
theorem s_retN {f : DE} (h : PN X e f) : PS X (.Return (some e) pos) (tS X.K H0 B0 fr RX (retN f)) := PS.imp (ps_ret h) fun D σ H ⟨δ, R, o, rs, q, k⟩ => by
  unfold retN at q
  cases e : f (allV δ) with
  | none => rw [e] at q; cases q
  | some d =>
    rw [e] at q
    cases q
    exact ⟨allV δ, d, rs.all, e, fun v H' A s t nd fr' => k v H' ⟨rs.keep.trans s, fun _ => ⟨A, t, nd, fun a z => rs.keep.free (fr' a z)⟩, fun _ => t.rep d fun a z => rs.inB.fresh (rs.keep.free (fr' a z))⟩ fun a z => s.free z⟩
theorem s_retS {f : DE} (h : PD X e f) : PS X (.Return (some e) pos) (tS X.K H0 B0 false RX (retS f)) := PS.imp (ps_ret h) fun D σ H ⟨δ, R, o, rs, q, k⟩ => by
  unfold retS at q
  cases e : f (shV δ) with
  | none => rw [e] at q; cases q
  | some d =>
    rw [e] at q
    cases q
    exact ⟨_, shV δ, d, rs.inAll, rs.shr, e, fun v H' s r => k v H' ⟨rs.keep.trans s, (fun z => nomatch z), fun _ => r.anti fun a z => .inl z⟩ fun a z => s.free z⟩
theorem s_retO {i : Nat} (h : PE X e (tVar i)) : PS X (.Return (some e) pos) (tS X.K H0 B0 fr RX (retO i)) := PS.imp (ps_ret h) fun D σ H ⟨δ, R, o, rs, q, k⟩ => by
  unfold retO at q
  split at q
  · rename_i d e
    cases q
    obtain ⟨v, e1, t, nd⟩ := rs.ow i d e
    exact ⟨v, e1, k v H ⟨rs.keep, fun _ => ⟨R i, t, nd, fun a z => rs.new i a z⟩, fun _ => t.rep d fun a z => rs.inB.fresh (rs.new i a z)⟩ fun a z => z⟩
  · cases q

/-! ### if, break, continue, pass -/
def ifO (c : DS → Option Bool) (g h : SS → Option Out) : SS → Option Out := fun δ => (c (allV δ)).bind fun b => if b = true then g δ else h δ
theorem s_if {c : Expr} {a b : List Stmt} {f : DS → Option Bool} {g h : SS → Option Out} (hc : PTD X c f) (ha : PSs X a (tS X.K H0 B0 fr RX g)) (hb : PSs X b (tS X.K H0 B0 fr RX h)) : PS X (.If c a b pos) (tS X.K H0 B0 fr RX (ifO f g h)) := PS.imp (ps_if hc ha hb) fun D σ H ⟨δ, R, o, rs, q, k⟩ => by
  unfold ifO at q
  cases e : f (allV δ) with
  | none => rw [e] at q; cases q
  | some b =>
    rw [e] at q
    have q' : (if b = true then g δ else h δ) = some o := q
    refine ⟨noB, allV δ, b, .no, rs.all, e, fun H' s => ?_⟩
    cases b with
    | true =>
      rw [if_pos rfl] at q'
      refine iteT ?_
      exact ⟨δ, R, o, rs.mono s, q', k.back (.same s)⟩
    | false =>
      rw [if_neg Bool.false_ne_true] at q'
      refine iteF ?_
      exact ⟨δ, R, o, rs.mono s, q', k.back (.same s)⟩
def bkO : SS → Option Out := fun δ => some (.bk δ)
def ctO : SS → Option Out := fun δ => some (.ct δ)
/-- ahead of a statement an owned slot may become shared -/
def frzO (i : Nat) (g : SS → Option Out) : SS → Option Out := fun δ => g (frzS i δ)

/-! ### for x in .. : over what is shared -/
def forD (i : Nat) (b : SS → Option Out) : List D → SS → Option Out
  | [], δ => some (.nx δ)
  | x :: r, δ => (b (δ.set i (some (.sh x)))).bind fun o => match o with
    | .nx δ' => forD i b r δ'
    | .ct δ' => forD i b r δ'
    | .bk δ' => some (.nx δ')
    | .rt d => some (.rt d)
    | .ex c δ' => some (.ex c δ')
def forO (i : Nat) (f : DS → Option (List D)) (b : SS → Option Out) : SS → Option Out := fun δ => (f (shV δ)).bind fun ds => forD i b ds δ
theorem Stp.keepB {K : PySem.W.Frag} {R R' : Nat → List Addr} {H H' : Hp} {B : Addr → Prop} (s : Stp R H R' H') (hR : ∀ r a, a ∈ R r → B a) (hm : ∀ r a, a ∈ R r → ∃ o, H a = some o ∧ Mut (some o)) : Keep K B H H' := by
  have kp : ∀ a o, H a = some o → ¬ Mut (some o) → H' a = some o := fun a o e n => s.keep a o e fun r z => by
    obtain ⟨o', e', m⟩ := hm r a z
    rw [e] at e'; cases e'
    exact n m
  refine ⟨fun a xs n h => s.keep a _ h fun r z => n (hR r a z), fun a xs h => ?_, fun a xs h => ?_, fun a kvs n h => s.keep a _ h fun r z => n (hR r a z), fun a φ n h => s.keep a _ h fun r z => n (hR r a z)⟩
  · rcases h with (h | ⟨o, h⟩) | h
    · exact .inl (.inl (kp a _ h fun z => z))
    · exact .inl (.inr ⟨o, kp a _ h fun z => z⟩)
    · exact .inr h
  · rcases h with ⟨o, h⟩ | h
    · exact .inl ⟨o, kp a _ h fun z => z⟩
    · exact .inr h
theorem s_for {i : Nat} {x : Str} {px : Pos} {iter : Expr} {body : List Stmt} {f : DS → Option (List D)} {g : SS → Option Out} (hp : PassesOwn (model X.prog X.w) X.A X.env X.xe) (hc : X.calm = true) (hi : PID X (.Name x px) iter f) (hg : PG X (.Name x px) (gName i)) (hb : PSs X body (tS X.K H0 B0 fr RX g))
    (hs : ∀ x, foldedSetIterable iter X.env x = pure x := by intro _; rfl) : PS X (.For (.Name x px) iter body [] pos) (tS X.K H0 B0 fr RX (forO i f g)) := PS.imp (ps_for hp hc hi hg hb hs) fun D σ H ⟨δ, R, o, rs, q, k⟩ => by
  unfold forO at q
  cases e : f (shV δ) with
  | none => rw [e] at q; cases q
  | some ds =>
  rw [e] at q
  have q : forD i g ds δ = some o := q
  refine ⟨_, shV δ, ds, rs.inAll, rs.shr, e, fun J H1 s1 itw => ?_⟩
  have rs1 := rs.mono s1
  have it := itw (fun a => H1 a = none) fun a z => z
  refine ⟨fun n m σ' H' => m = ds.length - n ∧ n ≤ ds.length ∧ ∃ δ' R', RS X.K H0 B0 H' σ' δ' R' ∧ Stp R H1 R' H' ∧ forD i g (ds.drop n) δ' = some o, ⟨ds.length, by simp, Nat.zero_le _, δ, R, rs1, .refl R H1, q⟩, ?_⟩
  rintro n m σ' H' ⟨rfl, hn, δ', R', rs', s', q'⟩
  have kp : Keep X.K (fun a => (B0 a ∨ ∃ r, a ∈ R r) ∨ H1 a = none) H1 H' := s'.keepB (fun r a z => .inl (.inr ⟨r, z⟩)) rs1.held
  by_cases hlt : n < ds.length
  · have hx : ds.drop n = ds[n] :: ds.drop (n + 1) := List.drop_eq_getElem_cons hlt
    rw [hx] at q'
    unfold forD at q'
    cases eb : g (δ'.set i (some (.sh ds[n]))) with
    | none => rw [eb] at q'; cases q'
    | some ob =>
      rw [eb] at q'
      refine .inr ⟨it.go n H' kp hlt, fun σ2 H2 => n + 1 ≤ ds.length ∧ ∃ δ2 R2, RS X.K H0 B0 H2 σ2 δ2 R2 ∧ Stp R H1 R2 H2 ∧ forD i g (ds.drop (n + 1)) δ2 = some o, fun σ2 H2 z => ⟨ds.length - (n + 1), by omega, rfl, z⟩, fun xv H2 hy => ?_⟩
      obtain ⟨s2, d, hd, rd⟩ := it.yld n H' xv H2 kp hy
      have hdi : d = ds[n] := by
        have := hd hlt
        rw [List.getElem?_eq_getElem hlt] at this
        exact (Option.some.inj this).symm
      subst hdi
      -- the item is shared
      have rd' : Rep X.K H2 (fun a => B0 a ∨ ∃ r, a ∈ R' r) ds[n] xv := rd.anti fun a z => by
        rcases z with z | ⟨r, z⟩
        · exact .inl (.inl z)
        · rcases s'.from' r a z with z | z
          · exact .inl (.inr z)
          · exact .inr z
      have rs2 := (rs'.mono s2).setSh (i := i) rd'
      have st2 : Stp R H1 R' H2 := s'.trans (.same s2)
      refine ⟨_, R', ob, rs2, eb, ?_⟩
      cases ob with
      | nx δ2 =>
        have q2 : forD i g (ds.drop (n + 1)) δ2 = some o := q'
        exact fun σ3 H3 R3 rs3 s3 => ⟨hlt, δ2, R3, rs3, st2.trans s3, q2⟩
      | ct δ2 =>
        have q2 : forD i g (ds.drop (n + 1)) δ2 = some o := q'
        exact fun σ3 H3 R3 rs3 s3 => ⟨hlt, δ2, R3, rs3, st2.trans s3, q2⟩
      | bk δ2 =>
        cases q'
        exact fun σ3 H3 R3 rs3 s3 => k σ3 H3 R3 rs3 ((Stp.same s1).trans (st2.trans s3))
      | rt d =>
        cases q'
        exact k.back ((Stp.same s1).trans st2)
      | ex c δ2 =>
        cases q'
        exact k.back ((Stp.same s1).trans st2)
  · have en : n = ds.length := by omega
    subst en
    rw [List.drop_length] at q'
    cases q'
    exact .inl ⟨it.stop _ H' kp (Nat.le_refl _), k σ' H' R' rs' ((Stp.same s1).trans s')⟩
end

/-! ### a def's body -/
def runD (np nl : Nat) (g : SS → Option Out) : List D → Option D := fun ds => if ds.length = np then (match g (ds.map (fun d => some (.sh d)) ++ List.replicate nl none) with
  | some (.rt d) => some d
  | some (.nx _) => some .non
  | _ => none) else none
theorem runD_len {np nl : Nat} {g : SS → Option Out} {ds : List D} {d : D} (h : runD np nl g ds = some d) : ds.length = np := by
  unfold runD at h
  split at h
  · assumption
  · cases h
theorem rs_start {K : PySem.W.Frag} {H : Hp} {B : Addr → Prop} {ds : List D} {vs : List V} {N : List Str} {nl : Nat} (hB : InB B H) (r : Reps K H B ds vs) (hN : N.length = ds.length + nl) :
    RS K H B H (start N vs) (ds.map (fun d => some (.sh d)) ++ List.replicate nl none) (fun _ => []) := by
  have hl := r.length
  have get : ∀ {i : Nat} {x : SD}, (ds.map (fun d => some (SD.sh d)) ++ List.replicate nl none)[i]? = some (some x) → ∃ d, ds[i]? = some d ∧ x = .sh d := fun {i x} e => by
    by_cases hi : i < ds.length
    · rw [List.getElem?_append_left (by simpa using hi), List.getElem?_map, List.getElem?_eq_getElem hi] at e
      cases e
      exact ⟨ds[i], List.getElem?_eq_getElem hi, rfl⟩
    · rw [List.getElem?_append_right (by simpa using hi), List.getElem?_replicate] at e
      split at e <;> cases e
  refine ⟨.refl H, hB, ?_, (fun _ _ z => nomatch z), (fun _ _ z => nomatch z), (fun _ _ _ z => nomatch z), fun i d e => ?_, fun i r d e => ?_, fun i d e => ?_⟩
  · unfold start
    simp
    omega
  · obtain ⟨d', e1, e2⟩ := get e
    cases e2
    obtain ⟨v, e3, rv⟩ := r.get e1
    refine ⟨v, ?_, rv.anti fun a z => z.elim id (fun ⟨_, z⟩ => nomatch z)⟩
    unfold start
    have hi : i < vs.length := (List.getElem?_eq_some_iff.mp e3).1
    rw [List.getElem?_append_left (by simpa using hi), List.getElem?_map, e3]
    rfl
  · obtain ⟨d', _, e2⟩ := get e
    cases e2
  · obtain ⟨d', _, e2⟩ := get e
    cases e2
section
variable {P : Program} {w : World} {K : PySem.W.Frag} {mg : Str → Option Value} {base : Heap}
/-- a def whose trees are all new -/
theorem fnN {x qual : Str} {st : Stmt} {f : Addr} {fd : FuncData} {N ps : List Str} {k np nl : Nat} {g : SS → Option Out} (F : Fun K x qual st f fd) (S : FnScope N ps (defScope st)) (hnp : ps.length = np) (hN : N.length = np + nl)
    (hbody : ∀ (cdv : Value) (A : Around) (outer : List Env) (s : Shared) (H : Hp) (E : XK), Room k (A.deeper (envOfC qual (defScope st) s.heap.objs.size f cdv)) →
      PSs (cxOf CX0 P w K mg base N qual (defScope st) f cdv A outer s H E).nox (defBody st) (tS K H noB true noX g)) : FnOk P w K mg base CX0 (k + 1) f fd ps (spN K (runD np nl g)) := by
  refine F.ok S (fun vs H Q E h => ?_) fun cdv A outer s H vs Q E hr h => ?_
  · obtain ⟨ds, d, r, e, _⟩ := h
    rw [← r.length, runD_len e, hnp]
  · obtain ⟨ds, d, r, e, kk⟩ := h
    refine ⟨_, hbody cdv A outer s H E hr, ?_⟩
    have hl := runD_len e
    unfold runD at e
    rw [if_pos hl] at e
    have rs := rs_start (nl := nl) .no r (N := N) (by omega)
    split at e
    · rename_i d' eg
      cases e
      exact ⟨_, _, _, rs, eg, fun v H' z _ => by
        obtain ⟨A', t, nd, fr⟩ := z.2.1 rfl
        exact kk v H' A' z.1 t nd fr⟩
    · rename_i δ' eg
      cases e
      exact ⟨_, _, _, rs, eg, fun σ' H' R' rs' _ => kk .non H' [] rs'.keep ⟨rfl, rfl⟩ List.nodup_nil (fun a z => nomatch z)⟩
    · cases e
theorem defN {x qual : Str} {st : Stmt} {f : Addr} {fd : FuncData} {N ps : List Str} {k np nl : Nat} {g : SS → Option Out} (F : Fun K x qual st f fd) (hm : mg x = some (.ref f)) (hb : Binds K fd ps []) (S : FnScope N ps (defScope st)) (hnp : ps.length = np) (hN : N.length = np + nl)
    (hbody : ∀ (cdv : Value) (A : Around) (outer : List Env) (s : Shared) (H : Hp) (E : XK), Room k (A.deeper (envOfC qual (defScope st) s.heap.objs.size f cdv)) →
      PSs (cxOf CX0 P w K mg base N qual (defScope st) f cdv A outer s H E).nox (defBody st) (tS K H noB true noX g)) : DefOk P w K mg base (k + 1) x (spN K (runD np nl g)) :=
  ⟨f, fd, ps, hm, F.kp, hb, fnN F S hnp hN hbody⟩
/-- a def that may hand back a part of what it was handed -/
theorem defR {x qual : Str} {st : Stmt} {f : Addr} {fd : FuncData} {N ps : List Str} {k np nl : Nat} {g : SS → Option Out} (F : Fun K x qual st f fd) (hm : mg x = some (.ref f)) (hb : Binds K fd ps []) (S : FnScope N ps (defScope st)) (hnp : ps.length = np) (hN : N.length = np + nl)
    (hbody : ∀ (cdv : Value) (A : Around) (outer : List Env) (s : Shared) (H : Hp) (E : XK) (B : Addr → Prop), Room k (A.deeper (envOfC qual (defScope st) s.heap.objs.size f cdv)) →
      PSs (cxOf CX0 P w K mg base N qual (defScope st) f cdv A outer s H E).nox (defBody st) (tS K H B false noX g)) : DefOk P w K mg base (k + 1) x (spR K (runD np nl g)) := by
  refine ⟨f, fd, ps, hm, F.kp, hb, F.ok S (fun vs H Q E h => ?_) fun cdv A outer s H vs Q E hr h => ?_⟩
  · obtain ⟨B, ds, d, _, r, e, _⟩ := h
    rw [← r.length, runD_len e, hnp]
  · obtain ⟨B, ds, d, hB, r, e, kk⟩ := h
    refine ⟨_, hbody cdv A outer s H E B hr, ?_⟩
    have hl := runD_len e
    unfold runD at e
    rw [if_pos hl] at e
    have rs := rs_start (nl := nl) hB r (N := N) (by omega)
    split at e
    · rename_i d' eg
      cases e
      exact ⟨_, _, _, rs, eg, fun v H' z _ => kk v H' z.1 (z.2.2 rfl)⟩
    · rename_i δ' eg
      cases e
      exact ⟨_, _, _, rs, eg, fun σ' H' R' rs' _ => kk .non H' rs'.keep rfl⟩
    · cases e
end
end L2

/-! ### E6: Python's own functions and operators by trees -/
namespace L2
open PySem PySem.Spec PyProof.Rows PySem.SeqAt

mutual
def toP : D → PyData
  | .non => .none
  | .bl b => .bool b
  | .int i => .int i
  | .str x => .str x
  | .lst ds => .list (toPs ds)
  | .tup ds => .tuple (toPs ds)
  | .scr ns => .list (ns.map .int)
  | .dct _ _ => .dict []
  | .exc _ => .dict []
def toPs : List D → List PyData
  | [] => []
  | d :: ds => toP d :: toPs ds
end
theorem ints_reads {h : Heap} : ∀ (ns : List Int) {us : List Value}, Vals (ns.map V.int) us → ∃ as, ReadsAll h us (ns.map .int) as
  | [], _, .nil => ⟨_, .nil⟩
  | n :: ns, _, .cons r t => by
    obtain ⟨tk, rfl⟩ := r
    obtain ⟨as, ra⟩ := ints_reads (h := h) ns t
    exact ⟨_, .cons (.int n tk) ra⟩
section
variable {X : Cx} {pins : List (Addr × Obj)} {σ : St} {H : Hp} {s : Shared} {B : Addr → Prop}
mutual
theorem rep_reads (I : Inv X pins σ H s) : ∀ (d : D) {v : V} {u : Value}, (toP d).canLay0 = true → Rep X.K H B d v → RelV v u → ∃ as, Reads s.heap u (toP d) as
  | .non, _, _, _, h, r => by cases h; cases r; exact ⟨_, .none⟩
  | .bl b, _, _, _, h, r => by cases h; cases r; exact ⟨_, .bool b⟩
  | .int i, _, _, _, h, r => by cases h; obtain ⟨t, rfl⟩ := r; exact ⟨_, .int i t⟩
  | .str x, _, _, _, h, r => by cases h; obtain ⟨t, rfl⟩ := r; exact ⟨_, .str x t⟩
  | .lst ds, _, _, hc, h, r => by
    unfold Rep at h
    obtain ⟨a, xs, rfl, _, hq, rs⟩ := h
    cases r
    obtain ⟨its, rv, ⟨o, n, e, c, _, dt⟩, _⟩ := I.list (SqL.of hq)
    have hc' : PyData.canLayAll0 (toPs ds) = true := by unfold toP PyData.canLay0 at hc; exact hc
    obtain ⟨as, ra⟩ := reps_reads I ds hc' rs rv
    unfold toP
    exact ⟨_, .list e c dt (by simpa using ra)⟩
  | .tup ds, _, _, hc, h, r => by
    unfold Rep at h
    obtain ⟨a, xs, rfl, hq, rs⟩ := h
    cases r
    obtain ⟨its, rv, ⟨o, e, c, n, dt⟩, _⟩ := I.tuple hq
    have hc' : PyData.canLayAll0 (toPs ds) = true := by unfold toP PyData.canLay0 at hc; exact hc
    obtain ⟨as, ra⟩ := reps_reads I ds hc' rs rv
    unfold toP
    exact ⟨_, .tuple e c dt (by simpa using ra)⟩
  | .scr ns, _, _, hc, h, r => by
    unfold Rep at h
    obtain ⟨a, rfl, hq⟩ := h
    cases r
    obtain ⟨its, rv, ⟨o, n, e, c, _, dt⟩, _⟩ := I.list hq.sq
    unfold toP
    obtain ⟨as, ra⟩ := ints_reads (h := s.heap) ns rv
    exact ⟨_, .list e c dt (by simpa using ra)⟩
  | .dct _ _, _, _, hc, _, _ => by unfold toP PyData.canLay0 at hc; cases hc
  | .exc _, _, _, hc, _, _ => by unfold toP PyData.canLay0 at hc; cases hc
theorem reps_reads (I : Inv X pins σ H s) : ∀ (ds : List D) {xs : List V} {us : List Value}, PyData.canLayAll0 (toPs ds) = true → Reps X.K H B ds xs → Vals xs us → ∃ as, ReadsAll s.heap us (toPs ds) as
  | [], _, _, _, h, r => by
    unfold Reps at h
    subst h
    cases r
    exact ⟨_, .nil⟩
  | d :: ds, _, _, hc, h, r => by
    unfold Reps at h
    obtain ⟨x, rr, rfl, h1, h2⟩ := h
    unfold toPs PyData.canLayAll0 at hc
    rw [Bool.and_eq_true] at hc
    cases r with
    | cons r1 r2 =>
      obtain ⟨as, ra⟩ := rep_reads I d hc.1 h1 r1
      obtain ⟨bs, rb⟩ := reps_reads I ds hc.2 h2 r2
      unfold toPs
      exact ⟨_, .cons ra rb⟩
end
end
/-- what may be compared -/
def okP (d : D) : Bool := (toP d).canLay0 && decide ((toP d).depth ≤ 60)
def eqD (x y : D) : Option D := if (okP x && okP y) = true then some (.bl (PyData.eqv (toP x) (toP y))) else none
def neD (x y : D) : Option D := if (okP x && okP y) = true then some (.bl (!PyData.eqv (toP x) (toP y))) else none
def memD (x : D) : D → Option Bool
  | .lst ds => if (okP x && okP (.lst ds)) = true then some (ds.any fun y => PyData.eqv (toP y) (toP x)) else none
  | .tup ds => if (okP x && okP (.tup ds)) = true then some (ds.any fun y => PyData.eqv (toP y) (toP x)) else none
  | _ => none
def ninD (x y : D) : Option D := (memD x y).map fun b => .bl (!b)
def rEqD (K : PySem.W.Frag) : R2 := fun x y H Q => ∃ B dx dy, Rep K H B dx x ∧ Rep K H B dy y ∧ okP dx = true ∧ okP dy = true ∧ Q (.bl (PyData.eqv (toP dx) (toP dy))) H
def rNeD (K : PySem.W.Frag) : R2 := fun x y H Q => ∃ B dx dy, Rep K H B dx x ∧ Rep K H B dy y ∧ okP dx = true ∧ okP dy = true ∧ Q (.bl (!PyData.eqv (toP dx) (toP dy))) H
theorem okP_get {d : D} (h : okP d = true) : (toP d).canLay0 = true ∧ (toP d).depth ≤ 60 := by
  unfold okP at h
  rw [Bool.and_eq_true, decide_eq_true_eq] at h
  exact h
section
variable {X : Cx}
theorem op_eqD (hu : X.A.units + 64 < cLine) : OpR X (compareOp .Eq) (rEqD X.K) := by
  intro pins s σ H x y v u Q I rx ry h
  obtain ⟨B, dx, dy, r1, r2, o1, o2, q⟩ := h
  obtain ⟨as, ra⟩ := rep_reads I dx (okP_get o1).1 r1 rx
  obtain ⟨bs, rb⟩ := rep_reads I dy (okP_get o2).1 r2 ry
  exact compareEq_reads ra rb (okP_get o1).1 (okP_get o2).1 (by have := (okP_get o1).2; omega) ⟨.bl _, H, I, rfl, q⟩
theorem op_neD (hu : X.A.units + 64 < cLine) : OpR X (compareOp .NotEq) (rNeD X.K) := by
  intro pins s σ H x y v u Q I rx ry h
  obtain ⟨B, dx, dy, r1, r2, o1, o2, q⟩ := h
  obtain ⟨as, ra⟩ := rep_reads I dx (okP_get o1).1 r1 rx
  obtain ⟨bs, rb⟩ := rep_reads I dy (okP_get o2).1 r2 ry
  exact compareNe_reads ra rb (okP_get o1).1 (okP_get o2).1 (by have := (okP_get o1).2; omega) ⟨.bl _, H, I, rfl, q⟩
theorem o2_eq {K : PySem.W.Frag} : Op2 K (rEqD K) eqD := by
  intro H B dx dy d x y Q hB hx hy q k
  unfold eqD at q
  split at q
  · rename_i h
    rw [Bool.and_eq_true] at h
    cases q
    exact ⟨B, dx, dy, hx, hy, h.1, h.2, k _ H (.refl H) rfl⟩
  · cases q
theorem o2_ne {K : PySem.W.Frag} : Op2 K (rNeD K) neD := by
  intro H B dx dy d x y Q hB hx hy q k
  unfold neD at q
  split at q
  · rename_i h
    rw [Bool.and_eq_true] at h
    cases q
    exact ⟨B, dx, dy, hx, hy, h.1, h.2, k _ H (.refl H) rfl⟩
  · cases q
theorem toPs_any (p : PyData → Bool) : ∀ ds : List D, (toPs ds).any p = ds.any fun y => p (toP y)
  | [] => rfl
  | d :: ds => by unfold toPs; rw [List.any_cons, List.any_cons, toPs_any p ds]
def rInD (K : PySem.W.Frag) (neg : Bool) : R2 := fun x y H Q => ∃ B dx dy b, Rep K H B dx x ∧ Rep K H B dy y ∧ memD dx dy = some b ∧ Q (.bl (if neg then !b else b)) H
theorem op_ninD (hu : X.A.units + 64 < cLine) : OpR X (compareOp .NotIn) (rInD X.K true) := by
  intro pins s σ H x y v u Q I rx ry h
  obtain ⟨B, dx, dy, b, r1, r2, o, q⟩ := h
  unfold memD at o
  split at o
  · split at o
    · rename_i ds h
      rw [Bool.and_eq_true] at h
      cases o
      obtain ⟨as, ra⟩ := rep_reads I dx (okP_get h.1).1 r1 rx
      obtain ⟨bs, rb⟩ := rep_reads I _ (okP_get h.2).1 r2 ry
      have hc := (okP_get h.2).1
      unfold toP at rb hc
      unfold PyData.canLay0 at hc
      refine notIn_list_reads rb ra hc (okP_get h.1).1 (by have := (okP_get h.1).2; omega) ?_
      rw [toPs_any]
      exact ⟨.bl _, H, I, rfl, q⟩
    · cases o
  · split at o
    · rename_i ds h
      rw [Bool.and_eq_true] at h
      cases o
      obtain ⟨as, ra⟩ := rep_reads I dx (okP_get h.1).1 r1 rx
      obtain ⟨bs, rb⟩ := rep_reads I _ (okP_get h.2).1 r2 ry
      have hc := (okP_get h.2).1
      unfold toP at rb hc
      unfold PyData.canLay0 at hc
      refine notIn_tuple_reads rb ra hc (okP_get h.1).1 (by have := (okP_get h.1).2; omega) ?_
      rw [toPs_any]
      exact ⟨.bl _, H, I, rfl, q⟩
    · cases o
  · cases o
theorem o2_nin {K : PySem.W.Frag} : Op2 K (rInD K true) ninD := by
  intro H B dx dy d x y Q hB hx hy q k
  unfold ninD at q
  cases e : memD dx dy with
  | none => rw [e] at q; cases q
  | some b =>
    rw [e] at q
    cases q
    exact ⟨B, dx, dy, b, hx, hy, e, k _ H (.refl H) rfl⟩

/-! ### built-in functions -/
def OpA (K : PySem.W.Frag) (r : List V → Hp → VK → Prop) (F : List D → Option D) : Prop := ∀ (H : Hp) (B : Addr → Prop) (ds : List D) (d : D) (vs : List V) (Q : VK), InB B H → Reps K H B ds vs → F ds = some d → (∀ v H', Same H H' → Rep K H' B d v → Q v H') → r vs H Q
def OpL (K : PySem.W.Frag) (r : List V → Hp → VK → Prop) (F : List D → Option (List D)) : Prop := ∀ (H : Hp) (B : Addr → Prop) (ds es : List D) (vs : List V) (Q : VK), InB B H → Reps K H B ds vs → F ds = some es →
  (∀ a xs H', Same H H' → H a = none → H' a = some (.lst xs) → Reps K H' B es xs → Q (.ref a) H') → r vs H Q
def dCallL (F : List D → Option (List D)) (fl : List DE) : DS → Option (List D) := fun δ => (dArgs fl δ).bind F
variable {x : Str} {bid T : String} {r : List V → Hp → VK → Prop} {e : Expr} {es : List Expr} {p pos : Pos} {fl : List DE}
theorem callA {F : List D → Option D} (ho : OpA X.K r F) (σ : St) (H : Hp) (Q : VK) (h : tD X.K (dCall F fl) σ H Q) : tCB r (tDs X.K (dArgs fl)) σ H Q := by
  obtain ⟨B, δ, d, hB, S, q, k⟩ := h
  obtain ⟨ds, e1, e2⟩ := dCall_some q
  exact ⟨B, δ, ds, hB, S, e1, fun vs H1 s1 r1 => ho H1 B ds d vs Q (hB.mono s1) r1 e2 fun v H' s' rv => k v H' (s1.trans s') rv⟩
theorem callL {F : List D → Option (List D)} (ho : OpL X.K r F) (σ : St) (H : Hp) (Q : VK) (h : tF X.K (dCallL F fl) σ H Q) : tCB r (tDs X.K (dArgs fl)) σ H Q := by
  obtain ⟨B, δ, d, hB, S, q, k⟩ := h
  unfold dCallL at q
  cases e1 : dArgs fl δ with
  | none => rw [e1] at q; cases q
  | some ds =>
    rw [e1] at q
    exact ⟨B, δ, ds, hB, S, e1, fun vs H1 s1 r1 => ho H1 B ds d vs Q (hB.mono s1) r1 q fun a xs H' s' hn ha rv => k a xs H' (s1.trans s') (s1.free hn) ha rv⟩
theorem pd_callB {F : List D → Option D} (hc : CallR X (.builtin bid) r) (hD : OpA X.K r F) (hg : Gl X x) (hm : X.mg x = none) (hv : bootBuiltins x = some (.builtin bid)) (ha : PAD X (e :: es) fl) (hn : x ≠ "__name__" := by decide) (hdb : (x == ("__debug__" : Str)) = false := by decide)
    (he : starEach (e :: es) X.env = (false, eval e X.env) :: starEach es X.env := by rfl) (hpl : (backTo pos (starEach es X.env)).any (·.1) = false := by rfl) : PD X (.Call (.Name x p) (e :: es) [] pos) (dCall F fl) :=
  (pe_callB hc hg hm hv ha hn hdb he hpl).imp (callA hD)
theorem pf_callT {F : List D → Option (List D)} (hc : CallR X (.type T) r) (hD : OpL X.K r F) (hg : Gl X x) (hm : X.mg x = none) (hv : bootBuiltins x = some (.type T)) (ha : PAD X (e :: es) fl) (hn : x ≠ "__name__" := by decide) (hdb : (x == ("__debug__" : Str)) = false := by decide)
    (he : starEach (e :: es) X.env = (false, eval e X.env) :: starEach es X.env := by rfl) (hpl : (backTo pos (starEach es X.env)).any (·.1) = false := by rfl) : PF X (.Call (.Name x p) (e :: es) [] pos) (dCallL F fl) :=
  (pe_callTy hc hg hm hv ha hn hdb he hpl).imp (callL hD)
theorem reps1 {K : PySem.W.Frag} {H : Hp} {B : Addr → Prop} {d : D} {vs : List V} (h : Reps K H B [d] vs) : ∃ v, vs = [v] ∧ Rep K H B d v := by
  unfold Reps at h
  obtain ⟨x, r, rfl, h1, h2⟩ := h
  unfold Reps at h2
  subst h2
  exact ⟨x, rfl, h1⟩
/-- len -/
def lenF : List D → Option D
  | [.lst ds] => some (.int ds.length)
  | [.tup ds] => some (.int ds.length)
  | [.scr ns] => some (.int ns.length)
  | _ => none
theorem oa_len {K : PySem.W.Frag} : OpA K (fun xs H Q => ∃ x n, xs = [x] ∧ LenV K x H n ∧ Q (.int n) H) lenF := by
  intro H B ds d vs Q hB hr q k
  unfold lenF at q
  split at q
  · cases q
    obtain ⟨v, rfl, r⟩ := reps1 hr
    unfold Rep at r
    obtain ⟨a, xs, rfl, _, h, rs⟩ := r
    refine ⟨.ref a, xs.length, rfl, .inl ⟨xs, SqL.of h, rfl⟩, k _ H (.refl H) ?_⟩
    show V.int _ = V.int _
    rw [rs.length]
  · cases q
    obtain ⟨v, rfl, r⟩ := reps1 hr
    unfold Rep at r
    obtain ⟨a, xs, rfl, h, rs⟩ := r
    refine ⟨.ref a, xs.length, rfl, .inr ⟨xs, h, rfl⟩, k _ H (.refl H) ?_⟩
    show V.int _ = V.int _
    rw [rs.length]
  · cases q
    obtain ⟨v, rfl, r⟩ := reps1 hr
    unfold Rep at r
    obtain ⟨a, rfl, h⟩ := r
    exact ⟨.ref a, _, rfl, .inl ⟨_, h.sq, (List.length_map ..).symm⟩, k _ H (.refl H) rfl⟩
  · cases q
theorem pd_len {f : DE} (hg : Gl X "len") (hm : X.mg "len" = none) (h : PD X e f) (he : starEach [e] X.env = [(false, eval e X.env)] := by rfl) : PD X (.Call (.Name "len" p) [e] [] pos) (dCall lenF [f]) :=
  pd_callB call_len oa_len hg hm PySem.boot_len (pad_cons h pad_nil he) (by decide) (by decide) he rfl
/-- all, any, sum of a list -/
def bools : List D → Option (List Bool)
  | [] => some []
  | .bl b :: r => (bools r).map (b :: ·)
  | _ => none
def ints' : List D → Option (List Int)
  | [] => some []
  | .int i :: r => (ints' r).map (i :: ·)
  | _ => none
theorem bools_vals {K : PySem.W.Frag} {H : Hp} {B : Addr → Prop} : ∀ {ds : List D} {bs : List Bool} {xs : List V}, bools ds = some bs → Reps K H B ds xs → xs = bs.map V.bl
  | [], _, _, e, h => by cases e; unfold Reps at h; exact h
  | .bl b :: r, bs, xs, e, h => by
    unfold bools at e
    cases q : bools r with
    | none => rw [q] at e; cases e
    | some cs =>
      rw [q] at e
      cases e
      unfold Reps at h
      obtain ⟨x, r', rfl, h1, h2⟩ := h
      rw [bools_vals q h2, show x = V.bl b from h1]
      rfl
  | .non :: _, _, _, e, _ => nomatch e
  | .int _ :: _, _, _, e, _ => nomatch e
  | .str _ :: _, _, _, e, _ => nomatch e
  | .lst _ :: _, _, _, e, _ => nomatch e
  | .tup _ :: _, _, _, e, _ => nomatch e
  | .dct _ _ :: _, _, _, e, _ => nomatch e
  | .exc _ :: _, _, _, e, _ => nomatch e
  | .scr _ :: _, _, _, e, _ => nomatch e
theorem ints_vals {K : PySem.W.Frag} {H : Hp} {B : Addr → Prop} : ∀ {ds : List D} {bs : List Int} {xs : List V}, ints' ds = some bs → Reps K H B ds xs → xs = bs.map V.int
  | [], _, _, e, h => by cases e; unfold Reps at h; exact h
  | .int b :: r, bs, xs, e, h => by
    unfold ints' at e
    cases q : ints' r with
    | none => rw [q] at e; cases e
    | some cs =>
      rw [q] at e
      cases e
      unfold Reps at h
      obtain ⟨x, r', rfl, h1, h2⟩ := h
      rw [ints_vals q h2, show x = V.int b from h1]
      rfl
  | .non :: _, _, _, e, _ => nomatch e
  | .bl _ :: _, _, _, e, _ => nomatch e
  | .str _ :: _, _, _, e, _ => nomatch e
  | .lst _ :: _, _, _, e, _ => nomatch e
  | .tup _ :: _, _, _, e, _ => nomatch e
  | .dct _ _ :: _, _, _, e, _ => nomatch e
  | .exc _ :: _, _, _, e, _ => nomatch e
  | .scr _ :: _, _, _, e, _ => nomatch e
theorem boolsAre : ∀ {bs : List Bool} {us : List Value}, Vals (bs.map V.bl) us → PyProof.Rows.LSm.BoolsAre us bs
  | [], _, .nil => .nil
  | b :: bs, _, .cons r t => by
    cases r
    exact .cons b (boolsAre t)
theorem call_allL (hc : X.calm = true) : CallR X (.builtin "all") (fun xs H Q => ∃ (p : Addr) (bs : List Bool), xs = [.ref p] ∧ SqL X.K H p (bs.map V.bl) ∧ Q (.bl (bs.all (fun b => b))) H) := by
  intro pins s σ H xs us Q I r h
  obtain ⟨p, bs, rfl, hq, q⟩ := h
  obtain ⟨u, rfl, ru⟩ := vals1 r
  cases ru
  obtain ⟨its, rv, pl, hz⟩ := I.list hq
  have hl := pl.isList
  have hb := boolsAre rv
  have hlt : p < s.heap.objs.size := by obtain ⟨_, e, _⟩ := hl; exact Heap.lt_size e
  refine call_all_walk (wpAny_pyIter_list hl ?_)
  refine ⟨s.heap.objs.size, [s.heap.objs.size, p], [s.heap.objs.size], its.toArray.size, _, _, fun i => (bs[i]?).getD true, rfl, Walks.list (A := X.A.in1) (I.ok.hd hc) _ p (Nat.ne_of_lt hlt) its.toArray,
    ⟨⟨_, Heap.get?_push_size _ rfl, rfl, rfl⟩, hl.push _⟩, fun i v s' Q' E' hP hQ => ?_, fun h' tk hk => ?_⟩
  · obtain ⟨b, e, rfl⟩ := hb.get i v (by simpa using hP)
    simp only [e, Option.getD_some] at hQ
    exact wpAny_truthy_bool hQ
  · have e : ((List.range its.toArray.size).all fun i => (bs[i]?).getD true) = bs.all (fun b => b) := by
      rw [List.size_toArray, hb.length]; exact LSm.range_all bs
    rw [e]
    exact ⟨.bl _, H, I.kept (LSm.kept_iter hk), rfl, q⟩
theorem call_anyL (hc : X.calm = true) : CallR X (.builtin "any") (fun xs H Q => ∃ (p : Addr) (bs : List Bool), xs = [.ref p] ∧ SqL X.K H p (bs.map V.bl) ∧ Q (.bl (bs.any (fun b => b))) H) := by
  intro pins s σ H xs us Q I r h
  obtain ⟨p, bs, rfl, hq, q⟩ := h
  obtain ⟨u, rfl, ru⟩ := vals1 r
  cases ru
  obtain ⟨its, rv, pl, hz⟩ := I.list hq
  have hl := pl.isList
  have hb := boolsAre rv
  have hlt : p < s.heap.objs.size := by obtain ⟨_, e, _⟩ := hl; exact Heap.lt_size e
  refine call_any_walk (wpAny_pyIter_list hl ?_)
  refine ⟨s.heap.objs.size, [s.heap.objs.size, p], [s.heap.objs.size], its.toArray.size, _, _, fun i => (bs[i]?).getD false, rfl, Walks.list (A := X.A.in1) (I.ok.hd hc) _ p (Nat.ne_of_lt hlt) its.toArray,
    ⟨⟨_, Heap.get?_push_size _ rfl, rfl, rfl⟩, hl.push _⟩, fun i v s' Q' E' hP hQ => ?_, fun h' tk hk => ?_⟩
  · obtain ⟨b, e, rfl⟩ := hb.get i v (by simpa using hP)
    simp only [e, Option.getD_some] at hQ
    exact wpAny_truthy_bool hQ
  · have e : ((List.range its.toArray.size).any fun i => (bs[i]?).getD false) = bs.any (fun b => b) := by
      rw [List.size_toArray, hb.length]; exact LSm.range_any bs
    rw [e]
    exact ⟨.bl _, H, I.kept (LSm.kept_iter hk), rfl, q⟩
theorem call_sumL (hc : X.calm = true) : CallR X (.builtin "sum") (fun xs H Q => ∃ (p : Addr) (ns : List Int), xs = [.ref p] ∧ SqL X.K H p (ns.map V.int) ∧ Q (.int ns.sum) H) := by
  intro pins s σ H xs us Q I r h
  obtain ⟨p, ns, rfl, hq, q⟩ := h
  obtain ⟨u, rfl, ru⟩ := vals1 r
  cases ru
  obtain ⟨its, rv, pl, hz⟩ := I.list hq
  have hi := intsAre_of rv
  obtain ⟨xs, hx⟩ := hi.allInts.items
  have hl' : s.heap.IsList p (intItems xs) := hx ▸ pl.isList
  refine sum_intListG (I.ok.hd hc) hl' fun h' tk t' hk => ?_
  have e1 : ns = xs.toList.map (·.1) := by
    rw [← nums_intItems, ← hx]
    exact (show numsOf its.toArray.toList = ns from hi.numsOf).symm
  have e2 : preSum (numAt xs) xs.size = ns.sum := by
    rw [preSum_eq, List.take_of_length_le (by simp), e1]
  rw [e2]
  exact ⟨.int _, H, I.kept hk, ⟨_, rfl⟩, q⟩
def allF : List D → Option D
  | [.lst ds] => (bools ds).map fun bs => .bl (bs.all (fun b => b))
  | _ => none
def anyF : List D → Option D
  | [.lst ds] => (bools ds).map fun bs => .bl (bs.any (fun b => b))
  | _ => none
def sumF : List D → Option D
  | [.lst ds] => (ints' ds).map fun ns => .int ns.sum
  | _ => none
theorem oa_all {K : PySem.W.Frag} : OpA K (fun xs H Q => ∃ (p : Addr) (bs : List Bool), xs = [.ref p] ∧ SqL K H p (bs.map V.bl) ∧ Q (.bl (bs.all (fun b => b))) H) allF := by
  intro H B ds d vs Q hB hr q k
  unfold allF at q
  split at q
  · rename_i es
    cases e : bools es with
    | none => rw [e] at q; cases q
    | some bs =>
      rw [e] at q
      cases q
      obtain ⟨v, rfl, r⟩ := reps1 hr
      unfold Rep at r
      obtain ⟨a, xs, rfl, _, h, rs⟩ := r
      rw [bools_vals e rs] at h
      exact ⟨a, bs, rfl, SqL.of h, k _ H (.refl H) rfl⟩
  · cases q
theorem oa_any {K : PySem.W.Frag} : OpA K (fun xs H Q => ∃ (p : Addr) (bs : List Bool), xs = [.ref p] ∧ SqL K H p (bs.map V.bl) ∧ Q (.bl (bs.any (fun b => b))) H) anyF := by
  intro H B ds d vs Q hB hr q k
  unfold anyF at q
  split at q
  · rename_i es
    cases e : bools es with
    | none => rw [e] at q; cases q
    | some bs =>
      rw [e] at q
      cases q
      obtain ⟨v, rfl, r⟩ := reps1 hr
      unfold Rep at r
      obtain ⟨a, xs, rfl, _, h, rs⟩ := r
      rw [bools_vals e rs] at h
      exact ⟨a, bs, rfl, SqL.of h, k _ H (.refl H) rfl⟩
  · cases q
theorem oa_sum {K : PySem.W.Frag} : OpA K (fun xs H Q => ∃ (p : Addr) (ns : List Int), xs = [.ref p] ∧ SqL K H p (ns.map V.int) ∧ Q (.int ns.sum) H) sumF := by
  intro H B ds d vs Q hB hr q k
  unfold sumF at q
  split at q
  · rename_i es
    cases e : ints' es with
    | none => rw [e] at q; cases q
    | some bs =>
      rw [e] at q
      cases q
      obtain ⟨v, rfl, r⟩ := reps1 hr
      unfold Rep at r
      obtain ⟨a, xs, rfl, _, h, rs⟩ := r
      rw [ints_vals e rs] at h
      exact ⟨a, bs, rfl, SqL.of h, k _ H (.refl H) rfl⟩
  · cases q
theorem pd_all {f : DE} (hc : X.calm = true) (hg : Gl X "all") (hm : X.mg "all" = none) (h : PD X e f) (he : starEach [e] X.env = [(false, eval e X.env)] := by rfl) : PD X (.Call (.Name "all" p) [e] [] pos) (dCall allF [f]) :=
  pd_callB (call_allL hc) oa_all hg hm PyProof.Rows.Boot.«all» (pad_cons h pad_nil he) (by decide) (by decide) he rfl
theorem pd_any {f : DE} (hc : X.calm = true) (hg : Gl X "any") (hm : X.mg "any" = none) (h : PD X e f) (he : starEach [e] X.env = [(false, eval e X.env)] := by rfl) : PD X (.Call (.Name "any" p) [e] [] pos) (dCall anyF [f]) :=
  pd_callB (call_anyL hc) oa_any hg hm PyProof.Rows.Boot.«any» (pad_cons h pad_nil he) (by decide) (by decide) he rfl
theorem pd_sum {f : DE} (hc : X.calm = true) (hg : Gl X "sum") (hm : X.mg "sum" = none) (h : PD X e f) (he : starEach [e] X.env = [(false, eval e X.env)] := by rfl) : PD X (.Call (.Name "sum" p) [e] [] pos) (dCall sumF [f]) :=
  pd_callB (call_sumL hc) oa_sum hg hm boot_sum (pad_cons h pad_nil he) (by decide) (by decide) he rfl
/-- list(x) of a list or a tuple -/
def listF : List D → Option (List D)
  | [.lst ds] => some ds
  | [.tup ds] => some ds
  | [.scr ns] => some (ns.map .int)
  | _ => none
theorem ol_list {K : PySem.W.Frag} : OpL K (fun xs H Q => ∃ p ys, xs = [.ref p] ∧ (SqL K H p ys ∨ SqT K H p ys) ∧ ∀ l, H l = none → Q (.ref l) (upd H l (.lst ys))) listF := by
  intro H B ds es vs Q hB hr q k
  unfold listF at q
  split at q
  · cases q
    obtain ⟨v, rfl, r⟩ := reps1 hr
    unfold Rep at r
    obtain ⟨a, xs, rfl, _, h, rs⟩ := r
    exact ⟨a, xs, rfl, .inl (SqL.of h), fun l hl => k l xs _ (same_upd hl) hl upd_same (rs.mono (same_upd hl))⟩
  · cases q
    obtain ⟨v, rfl, r⟩ := reps1 hr
    unfold Rep at r
    obtain ⟨a, xs, rfl, h, rs⟩ := r
    exact ⟨a, xs, rfl, .inr h, fun l hl => k l xs _ (same_upd hl) hl upd_same (rs.mono (same_upd hl))⟩
  · cases q
    obtain ⟨v, rfl, r⟩ := reps1 hr
    unfold Rep at r
    obtain ⟨a, rfl, h⟩ := r
    exact ⟨a, _, rfl, .inl h.sq, fun l hl => k l _ _ (same_upd hl) hl upd_same (reps_ints _)⟩
  · cases q
theorem pf_listOf {f : DE} (hg : Gl X "list") (hm : X.mg "list" = none) (h : PD X e f) (he : starEach [e] X.env = [(false, eval e X.env)] := by rfl) : PF X (.Call (.Name "list" p) [e] [] pos) (dCallL listF [f]) :=
  pf_callT call_list_of ol_list hg hm PyProof.Rows.Boot.«list» (pad_cons h pad_nil he) (by decide) (by decide) he rfl
/-- tuple(x) -/
def tupF : List D → Option D
  | [.lst ds] => some (.tup ds)
  | [.tup ds] => some (.tup ds)
  | _ => none
end
end L2

/-! ### E7: isinstance; lists that are owned, changed -/
namespace L2
open PySem PySem.Spec PyProof.Rows

def tyN : D → String
  | .non => "NoneType"
  | .bl _ => "bool"
  | .int _ => "int"
  | .str _ => "str"
  | .lst _ => "list"
  | .tup _ => "tuple"
  | .scr _ => "list"
  | .dct _ _ => "dict"
  | .exc _ => "object"
/-- isinstance(x, T) for these T -/
inductive IsT : String → Prop where
  | bool : IsT "bool" | int : IsT "int" | str : IsT "str" | list : IsT "list" | tuple : IsT "tuple" | dict : IsT "dict"
def isF (T : String) (d : D) : Bool := tyN d == T || (tyN d == "bool" && T == "int")
theorem kit_tt (K : PySem.W.Frag) {T : String} (h : IsT T) (d : D) (hd : ∀ x, d ≠ .exc x) : PySem.W.kitOne K (.type (tyN d)) (.type T) = some (isF T d) := by
  cases h <;> cases d <;> first | kernel_rfl | exact absurd rfl (hd _)
section
variable {prog : Program} {w : World} {A : Around} {E : Value → Shared → Prop} {K : PySem.W.Frag} {x D : Addr} {ox : Obj} {s : Shared}
/-- the class of an exception of the program's own, by its name __class__ -/
theorem exc_class {Q : Option Value → Shared → Prop} (X : K.In s.heap) (I : PySem.W.InstAt s.heap x ox D none) (hga : PySem.W.findIn K (.ref D) "__getattribute__" = some (some (.builtin "BaseException.__getattribute__"))) (hgh : PySem.W.findIn K (.ref D) "__getattr__" = some none)
    (hf : PySem.W.findObj K D none "__class__" = some (.bind (.builtin "getset_descriptor.__get__") (.builtin "object.__class__"))) (hm : PySem.W.mroIn K D (.type "object") = some true) (hb : PySem.W.mroIn K D (.type "BaseException") = some true)
    (h : Q (some (.ref D)) { s with toks := s.toks + 1 }) : wpAny (model prog w) A (getAttr? (.ref x) "__class__") Q E s := by
  obtain ⟨hp, gs, dr, tk, os⟩ := s
  have T0 := I.type (M := model prog w)
  have T1 := PySem.W.looks_findIn (M := model prog w) X hga
  have T2 := PySem.W.looks_findIn (M := model prog w) X hgh
  have T3 := PySem.W.looks_find (M := model prog w) X I hf
  have T4 := PySem.W.looks_mroIn (M := model prog w) X hb
  have hne : (onTheHeap (Value.ref D) && Value.builtin "BaseException.__getattribute__" == Value.builtin "object.__getattribute__") = false := by
    have z : (Value.builtin "BaseException.__getattribute__" == Value.builtin "object.__getattribute__") = false := by decide +kernel
    rw [z, Bool.and_false]
  unfold getAttr? getAttrBy?
  refine wpAny_bind (wpAny_mkText ?_)
  refine wpAny_bind (wpAny_attempt ?_)
  unfold getAttrBy
  refine wpAny_holding (wpAny_bind (T0.at ?_))
  refine wpAny_bind (T1.at ?_)
  dsimp only
  rw [hne, if_neg Bool.false_ne_true]
  unfold getAttrByItsOwn hookBefore
  rw [if_pos (show onTheHeap (Value.ref D) = true from rfl)]
  refine wpAny_bind (T2.at ?_)
  refine wpAny_bind (wpAny_attempt (wpAny_holding ?_))
  unfold callGetattribute boundAndCalled
  rw [Bool.false_and, if_neg Bool.false_ne_true, F.excAttr_ValueError.ga.bind]
  refine wpAny_bind (wpAny_pure ?_)
  refine wpAny_call (codeAny_call_builtin F.excAttr_ValueError.ga.plain F.entry_bexc_ga ?_)
  have k1 : builtinKind "BaseException.__getattribute__" = some .slot := by decide +kernel
  have k2 : splitId "BaseException.__getattribute__" = some ("BaseException", "__getattribute__") := by decide +kernel
  simp only [checkBuiltinCall, k1, k2]
  have ha := F.args_bexc_ga (.ref x) (.str "__class__" tk)
  have TI : PySem.W.Looks (model prog w) hp (isInstance (.ref x) (.type "BaseException")) true := T0.andThen T4
  show wpAny _ _ (isInstance (.ref x) (.type "BaseException") >>= _) _ _ _
  refine wpAny_bind (TI.at ?_)
  rw [if_neg (by decide)]
  unfold argsOk at ha
  refine wpAny_of_eq (a := ()) ha ?_
  unfold Builtin.«object.__getattribute__»
  refine wpAny_bind (wpAny_of_eq (a := (Value.ref x, [Value.str "__class__" tk])) rfl ?_)
  dsimp only
  refine wpAny_bind (wpAny_of_eq (a := ("__class__" : Str)) rfl ?_)
  refine wpAny_bind (T0.at ?_)
  refine wpAny_bind (T3.at ?_)
  show wpAny _ _ (holding [Value.builtin "object.__class__"] (call (.builtin "getset_descriptor.__get__") [.builtin "object.__class__", .ref x, .ref D]) >>= ret) _ _ _
  refine wpAny_bind (wpAny_holding (wpAny_call (PySem.W.class_get X I hm ?_)))
  refine wpAny_pure ?_
  exact PySem.W.handed_on rfl (wpAny_pure h)
end
theorem xcls_of {K : PySem.W.Frag} {C : Addr} (h : xclsB K C = true) : PySem.W.findIn K (.ref C) "__getattribute__" = some (some (.builtin "BaseException.__getattribute__")) ∧ PySem.W.findIn K (.ref C) "__getattr__" = some none ∧ PySem.W.mroIn K C (.type "BaseException") = some true ∧ (PySem.W.clsIn K C).isSome = true ∧
    PySem.W.findIn K (.ref C) "__class__" = some (some (.builtin "object.__class__")) ∧ PySem.W.specialIn K (.builtin "object.__class__") "__get__" = some (some (.builtin "getset_descriptor.__get__")) ∧ PySem.W.takesIn K (.builtin "object.__class__") = some true ∧ PySem.W.mroIn K C (.type "object") = some true := by
  unfold xclsB at h
  simp only [Bool.and_eq_true, beq_iff_eq] at h
  exact ⟨h.1.1.1.1.1.1.1.1, h.1.1.1.1.1.1.1.2, h.1.1.1.1.1.1.2, h.1.1.1.1.1.2, h.1.1.1.1.2, h.1.1.1.2, h.1.1.2, h.1.2⟩
/-- an exception answers isinstance by its class -/
theorem kitx_exc {K : PySem.W.Frag} {x C : Addr} {ox : Obj} (h : xclsB K C = true) : PySem.W.KitX K (.ref x) (.ref C) (fun g => PySem.W.InstAt g x ox C none) := by
  obtain ⟨g1, g2, g3, h2, h3, h4, h5, h6⟩ := xcls_of h
  obtain ⟨cd, hcd⟩ := Option.isSome_iff_exists.mp h2
  have hk : ∃ c d sl, K.lookup C = some ⟨c, d, .cls cd, sl⟩ := by
    unfold PySem.W.clsIn at hcd
    split at hcd
    · cases hcd; exact ⟨_, _, _, by assumption⟩
    · cases hcd
  obtain ⟨c0, d0, sl0, hk⟩ := hk
  have hf : PySem.W.findObj K C none "__class__" = some (.bind (.builtin "getset_descriptor.__get__") (.builtin "object.__class__")) := by
    unfold PySem.W.findObj
    rw [hcd, Option.bind_some, h3, Option.bind_some]
    simp [h4, h5]
  refine ⟨fun _ _ _ I => I.type, fun _ _ X _ => ?_, fun g tp dd its n sl X ht => ?_, fun X I k => ?_⟩
  · intro A' Q' E' s' kk q
    unfold isType loadHead
    exact wpAny_bind (wpAny_loadPart (kk _ _ (X _ _ hk)) (wpAny_pure q))
  · cases hz : (Value.ref C == Value.ref tp) with
    | false => rfl
    | true =>
      have e : C = tp := Value.ref.inj (beq_iff_eq.mp hz)
      rw [← e] at ht
      have z := (X _ _ hk).symm.trans ht
      cases z
  · exact exc_class X I g1 g2 hf h6 g3 k
theorem exc_at {X : Cx} {pins : List (Addr × Obj)} {σ : St} {H : Hp} {s : Shared} {a C : Addr} (I : Inv X pins σ H s) (h : H a = some (.ext (isX a C))) : ∃ o, PySem.W.InstAt s.heap a o C none := by
  obtain ⟨⟨o, h1, h2, h3, h4⟩, _⟩ := (show ObjOk X.prog X.w H s.heap a (.ext (isX a C)) from I.hok a _ h)
  exact ⟨o, h1, h2, h4, by rw [h3]; trivial⟩
section
variable {X : Cx} {pins : List (Addr × Obj)} {σ : St} {H : Hp} {s : Shared} {B : Addr → Prop} {A : Around} {E : Value → Shared → Prop} {Q : Value → Shared → Prop}
theorem isinst_rep {d : D} {v : V} {u : Value} {T : String} (I : Inv X pins σ H s) (r : Rep X.K H B d v) (rv : RelV v u) (hT : IsT T) (h : ∀ tk, Q (.bool (isF T d)) { s with toks := tk }) : wpAny (model X.prog X.w) A (call (.builtin "isinstance") [u, .type T]) Q E s := by
  by_cases hd : ∃ x, d = .exc x
  · obtain ⟨x, rfl⟩ := hd
    unfold Rep at r
    obtain ⟨a, C, rfl, _, hq, _, hx⟩ := r
    cases rv
    obtain ⟨o, ie⟩ := exc_at I hq
    have e : PySem.W.kitOne X.K (.ref C) (.type T) = some (isF T (.exc x)) := by
      have h6 := (Bool.and_eq_true_iff.mp hx).2
      rw [List.all_eq_true] at h6
      have h7 := beq_iff_eq.mp (h6 T (by cases hT <;> decide))
      rw [h7]
      cases hT <;> rfl
    exact PySem.W.kia_one (kitx_exc hx) I.kIn ie e (fun z => nomatch z) h
  have hd : ∀ x, d ≠ .exc x := fun x z => hd ⟨x, z⟩
  have e := kit_tt X.K hT d hd
  cases d with
  | exc x => exact absurd rfl (hd x)
  | non => cases r; cases rv; exact PySem.W.kia_one PySem.W.kitx_none I.kIn True.intro e (fun z => nomatch z) h
  | bl y => cases r; cases rv; exact PySem.W.kia_one PySem.W.kitx_bool I.kIn True.intro e (fun z => nomatch z) h
  | int i => cases r; obtain ⟨t, q⟩ := rv; cases q; exact PySem.W.kia_one PySem.W.kitx_int I.kIn True.intro e (fun z => nomatch z) h
  | str y => cases r; obtain ⟨t, q⟩ := rv; cases q; exact PySem.W.kia_one PySem.W.kitx_str I.kIn True.intro e (fun z => nomatch z) h
  | lst ds =>
    unfold Rep at r
    obtain ⟨a, xs, rfl, _, hq, _⟩ := r
    cases rv
    obtain ⟨its, _, ⟨o, n, e1, c, _⟩, _⟩ := I.list (SqL.of hq)
    exact PySem.W.kia_one PySem.W.kitx_list I.kIn ⟨o, e1, c⟩ e (fun z => nomatch z) h
  | tup ds =>
    unfold Rep at r
    obtain ⟨a, xs, rfl, hq, _⟩ := r
    cases rv
    obtain ⟨its, _, ⟨o, e1, c, _⟩, _⟩ := I.tuple hq
    exact PySem.W.kia_one PySem.W.kitx_tuple I.kIn ⟨o, e1, c⟩ e (fun z => nomatch z) h
  | scr ns =>
    unfold Rep at r
    obtain ⟨a, rfl, hq⟩ := r
    cases rv
    obtain ⟨its, _, ⟨o, n, e1, c, _⟩, _⟩ := I.list hq.sq
    exact PySem.W.kia_one PySem.W.kitx_list I.kIn ⟨o, e1, c⟩ e (fun z => nomatch z) h
  | dct ks ds =>
    unfold Rep at r
    obtain ⟨a, kvs, rfl, _, ea, _⟩ := r
    cases rv
    obtain ⟨_, _, vs, _, p⟩ := (show ObjOk X.prog X.w H s.heap a (.dK kvs) from I.hok a _ ea)
    obtain ⟨o, es, ep, h1, h2, _⟩ := p
    exact PySem.W.kia_one PySem.W.kitx_dict I.kIn ⟨o, h1, h2.1⟩ e (fun z => nomatch z) h
end
section
variable {X : Cx} {e : Expr} {p p2 pos : Pos}
def dIs (T : String) (f : DE) : DE := fun δ => (f δ).map fun d => .bl (isF T d)
theorem call_isR {T : String} (hT : IsT T) : CallR X (.builtin "isinstance") (fun xs H Q => ∃ B d v, xs = [v, .ty T] ∧ Rep X.K H B d v ∧ Q (.bl (isF T d)) H) := by
  intro pins s σ H xs us Q I r h
  obtain ⟨B, d, v, rfl, rv, q⟩ := h
  obtain ⟨u, w', rfl, r1, r2⟩ := vals2 r
  cases r2
  exact isinst_rep I rv r1 hT fun tk => ⟨.bl _, H, I.tok tk, rfl, q⟩
theorem pd_is {f : DE} {x : Str} {T : String} (hT : IsT T) (hb : bootBuiltins x = some (.type T)) (hx : Gl X x) (hmx : X.mg x = none) (hnx : x ≠ "__name__") (hdx : (x == ("__debug__" : Str)) = false) (hg : Gl X "isinstance") (hm : X.mg "isinstance" = none) (h : PD X e f)
    (he : starEach [e, .Name x p2] X.env = [(false, eval e X.env), (false, eval (.Name x p2) X.env)] := by rfl) (he2 : starEach [.Name x p2] X.env = [(false, eval (.Name x p2) X.env)] := by rfl) : PD X (.Call (.Name "isinstance" p) [e, .Name x p2] [] pos) (dIs T f) :=
  (pe_callB (call_isR hT) hg hm boot_isinstance (pa_cons h (pa_cons (pe_bltn (v := .ty T) hx hmx hb rfl hnx hdx) pa_nil he2) (by rw [he, he2])) (by decide) (by decide) (by rw [he, he2]) (by rw [he2]; rfl)).imp fun σ H Q ⟨B, δ, d, hB, S, q, k⟩ => by
    unfold dIs at q
    cases e1 : f δ with
    | none => rw [e1] at q; cases q
    | some d' =>
      rw [e1] at q
      cases q
      exact ⟨B, δ, d', hB, S, e1, fun v H1 s1 r1 => ⟨B, d', v, rfl, r1, k _ H1 s1 rfl⟩⟩
theorem pd_isBool {f : DE} (hx : Gl X "bool") (hmx : X.mg "bool" = none) (hg : Gl X "isinstance") (hm : X.mg "isinstance" = none) (h : PD X e f) (he : starEach [e, .Name "bool" p2] X.env = [(false, eval e X.env), (false, eval (.Name "bool" p2) X.env)] := by rfl) :
    PD X (.Call (.Name "isinstance" p) [e, .Name "bool" p2] [] pos) (dIs "bool" f) := pd_is .bool PyProof.Rows.Boot.«bool» hx hmx (by decide) (by decide) hg hm h he rfl
theorem pd_isInt {f : DE} (hx : Gl X "int") (hmx : X.mg "int" = none) (hg : Gl X "isinstance") (hm : X.mg "isinstance" = none) (h : PD X e f) (he : starEach [e, .Name "int" p2] X.env = [(false, eval e X.env), (false, eval (.Name "int" p2) X.env)] := by rfl) :
    PD X (.Call (.Name "isinstance" p) [e, .Name "int" p2] [] pos) (dIs "int" f) := pd_is .int PyProof.Rows.Boot.«int» hx hmx (by decide) (by decide) hg hm h he rfl
theorem pd_isList {f : DE} (hx : Gl X "list") (hmx : X.mg "list" = none) (hg : Gl X "isinstance") (hm : X.mg "isinstance" = none) (h : PD X e f) (he : starEach [e, .Name "list" p2] X.env = [(false, eval e X.env), (false, eval (.Name "list" p2) X.env)] := by rfl) :
    PD X (.Call (.Name "isinstance" p) [e, .Name "list" p2] [] pos) (dIs "list" f) := pd_is .list PyProof.Rows.Boot.«list» hx hmx (by decide) (by decide) hg hm h he rfl
end

/-! ### an owned list is changed -/
/-- what was lent by slot i is forgotten -/
def dropB (i : Nat) : Option SD → Option SD
  | some (.bo r d) => if r = i then none else some (.bo r d)
  | o => o
def dropBs (i : Nat) (δ : SS) : SS := δ.map (dropB i)
theorem dropBs_get {i j : Nat} {δ : SS} {x : SD} (h : (dropBs i δ)[j]? = some (some x)) : δ[j]? = some (some x) ∧ ∀ d, x ≠ .bo i d := by
  unfold dropBs at h
  rw [List.getElem?_map] at h
  cases e : δ[j]? with
  | none => rw [e] at h; cases h
  | some o =>
    rw [e] at h
    have h' : dropB i o = some x := Option.some.inj h
    unfold dropB at h'
    split at h'
    · rename_i r d
      split at h'
      · cases h'
      · rename_i hr
        cases h'
        exact ⟨rfl, fun d' z => by cases z; exact hr rfl⟩
    · rename_i hn
      subst h'
      exact ⟨rfl, fun d z => hn i d (by rw [z])⟩
section
variable {K : PySem.W.Frag} {H0 H : Hp} {B0 : Addr → Prop} {σ : St} {δ : SS} {R : Nat → List Addr}
/-- the list at a, of the slot i's tree, is rewritten: the tree behind it is told; what is new since Hold may come in -/
theorem RS.rewrite {Hold : Hp} {i : Nat} {d d' : D} {a : Addr} {o : HO} {v : V} {A' : List Addr} (h : RS K H0 B0 Hold σ δ R) (e : Same Hold H) (hi : δ[i]? = some (some (.ow d))) (hv : σ[i]? = some (some v)) (ha : a ∈ R i) (t : Tree K (upd H a o) d' v A') (nd : A'.Nodup) (sub : ∀ b ∈ A', b ∈ R i ∨ Hold b = none) :
    RS K H0 B0 (upd H a o) σ ((dropBs i δ).set i (some (.ow d'))) (setR R i A') ∧ Stp R Hold (setR R i A') (upd H a o) := by
  have hm := h.mono e
  obtain ⟨oa, ea, ma⟩ := hm.held i a ha
  have mH : Mut (H a) := by rw [ea]; exact ma
  have mem : ∀ r b, b ∈ setR R i A' r → b ∈ R r ∨ (r = i ∧ Hold b = none) := fun r b z => by
    by_cases hr : r = i
    · subst hr; rw [setR_same] at z; exact (sub b z).imp id fun q => ⟨rfl, q⟩
    · rw [setR_ne hr] at z; exact .inl z
  have kt : KeepI K H (upd H a o) := (Keep.upd (K := K) (B := fun x => x = a) rfl mH).i
  have nh : ∀ r b, b ∈ R r → Hold b = none → False := fun r b z q => by
    obtain ⟨u, q', _⟩ := h.held r b z
    rw [q] at q'; cases q'
  refine ⟨⟨fun b u q => ?_, h.inB, by simp [dropBs, h.len], fun r b z => ?_, fun r b z => ?_, fun r s b z z' => ?_, fun j d2 z => ?_, fun j r2 d2 z => ?_, fun j d2 z => ?_⟩, ⟨fun b u q n => ?_, fun r b z => ?_, fun b z => ?_⟩⟩
  · have ne : b ≠ a := fun z => by subst z; rw [h.new i b ha] at q; cases q
    rw [upd_ne ne]; exact hm.keep b u q
  · rcases mem r b z with z | ⟨_, z⟩
    · exact h.new r b z
    · exact h.keep.free z
  · by_cases hr : r = i
    · subst hr; rw [setR_same] at z; exact t.held d' b z
    · rw [setR_ne hr] at z
      have ne : b ≠ a := fun q => hr (h.disj r i b z (q ▸ ha))
      rw [upd_ne ne]; exact hm.held r b z
  · rcases mem r b z with z | ⟨z1, z2⟩ <;> rcases mem s b z' with z' | ⟨z1', z2'⟩
    · exact h.disj r s b z z'
    · exact (nh r b z z2').elim
    · exact (nh s b z' z2).elim
    · rw [z1, z1']
  · rcases get_set z with ⟨rfl, q, _⟩ | ⟨hj, q⟩
    · cases q
    · obtain ⟨q1, _⟩ := dropBs_get q
      obtain ⟨w, e1, r⟩ := h.sh j d2 q1
      have r2 := (Rep.wide (C := fun b => Hold b = none) (fun _ z => z) d2 r).mono e
      refine ⟨w, e1, Rep.anti ?_ d2 (Rep.keep (.upd (.inl (.inr ⟨i, ha⟩)) mH) d2 r2)⟩
      rintro b (z | ⟨r, z⟩)
      · exact .inl (.inl z)
      · rcases mem r b z with z | ⟨_, z⟩
        · exact .inl (.inr ⟨r, z⟩)
        · exact .inr z
  · rcases get_set z with ⟨rfl, q, _⟩ | ⟨hj, q⟩
    · cases q
    · obtain ⟨q1, q2⟩ := dropBs_get q
      have hr : i ≠ r2 := fun e => q2 d2 (by rw [e])
      obtain ⟨w, e1, r⟩ := h.bo j r2 d2 q1
      have r3 := (Rep.wide (C := fun b => Hold b = none) (fun _ z => z) d2 r).mono e
      refine ⟨w, e1, Rep.anti ?_ d2 (Rep.keep (.upd (.inl (.inr ⟨i, hr, ha⟩)) mH) d2 r3)⟩
      rintro b (z | ⟨s, hs, z⟩)
      · exact .inl (.inl z)
      · rcases mem s b z with z | ⟨_, z⟩
        · exact .inl (.inr ⟨s, hs, z⟩)
        · exact .inr z
  · rcases get_set z with ⟨rfl, q, _⟩ | ⟨hj, q⟩
    · cases q
      rw [setR_same]
      exact ⟨v, hv, t, nd⟩
    · obtain ⟨q1, _⟩ := dropBs_get q
      obtain ⟨w, e1, t', nd'⟩ := hm.ow j d2 q1
      rw [setR_ne hj]
      refine ⟨w, e1, Tree.keep kt d2 t' fun b hb u q => ?_, nd'⟩
      have ne : b ≠ a := fun z => by subst z; exact hj (h.disj j i b hb ha)
      rw [upd_ne ne]; exact q
  · have ne : b ≠ a := fun z => n i (z ▸ ha)
    rw [upd_ne ne]; exact e b u q
  · rcases mem r b z with z | ⟨_, z⟩
    · exact .inl ⟨r, z⟩
    · exact .inr z
  · by_cases hb : b = a
    · subst hb; rw [upd_same] at z; cases z
    · rw [upd_ne hb] at z; exact e.free z
/- items that cannot change, in a tree without lists -/
mutual
theorem Tree.flat : ∀ (d : D) {v : V} {A : List Addr}, d.imm = true → Tree K H d v A → A = []
  | .non, _, _, _, h => h.2
  | .bl _, _, _, _, h => h.2
  | .int _, _, _, _, h => h.2
  | .str _, _, _, _, h => h.2
  | .lst _, _, _, i, _ => by unfold D.imm at i; cases i
  | .dct _ _, _, _, i, _ => by unfold D.imm at i; cases i
  | .exc _, _, _, i, _ => by unfold D.imm at i; cases i
  | .tup ds, _, _, i, h => by
    unfold D.imm at i
    unfold Tree at h
    obtain ⟨a, xs, _, _, r⟩ := h
    exact Trees.flat ds i r
  | .scr _, _, _, _, h => h.2
theorem Trees.flat : ∀ (ds : List D) {xs : List V} {A : List Addr}, imms ds = true → Trees K H ds xs A → A = []
  | [], _, _, _, h => h.2
  | d :: ds, _, _, i, h => by
    unfold imms at i
    rw [Bool.and_eq_true] at i
    unfold Trees at h
    obtain ⟨x, r, C, C', rfl, h1, h2, rfl⟩ := h
    rw [Trees.flat ds i.2 h2, List.append_nil]
    exact Tree.flat d i.1 h1
end
theorem Trees.append : ∀ {ds es : List D} {xs ys : List V} {A C : List Addr}, Trees K H ds xs A → Trees K H es ys C → Trees K H (ds ++ es) (xs ++ ys) (A ++ C)
  | [], _, _, _, _, _, h, h' => by obtain ⟨rfl, rfl⟩ := h; exact h'
  | d :: ds, es, _, ys, _, C, h, h' => by
    unfold Trees at h
    obtain ⟨y, r, A1, A2, rfl, h1, h2, rfl⟩ := h
    exact (show Trees K H (d :: (ds ++ es)) (y :: (r ++ ys)) (A1 ++ A2 ++ C) by unfold Trees; exact ⟨y, _, A1, A2 ++ C, rfl, h1, Trees.append h2 h', List.append_assoc _ _ _⟩)
theorem Trees.split : ∀ {ds : List D} {xs : List V} {A : List Addr} (k : Nat), Trees K H ds xs A → ∃ A1 A2, A = A1 ++ A2 ∧ Trees K H (ds.take k) (xs.take k) A1 ∧ Trees K H (ds.drop k) (xs.drop k) A2
  | ds, xs, A, 0, h => ⟨[], A, rfl, by rw [List.take_zero, List.take_zero]; exact ⟨rfl, rfl⟩, h⟩
  | [], _, _, k + 1, h => by
    obtain ⟨rfl, rfl⟩ := h
    exact ⟨[], [], rfl, ⟨rfl, rfl⟩, ⟨rfl, rfl⟩⟩
  | d :: ds, _, _, k + 1, h => by
    unfold Trees at h
    obtain ⟨y, r, A1, A2, rfl, h1, h2, rfl⟩ := h
    obtain ⟨C1, C2, rfl, h3, h4⟩ := Trees.split k h2
    refine ⟨A1 ++ C1, C2, (List.append_assoc _ _ _).symm, ?_, h4⟩
    rw [List.take_succ_cons, List.take_succ_cons]
    unfold Trees
    exact ⟨y, _, A1, C1, rfl, h1, h3, rfl⟩
theorem Trees.one {d : D} {x : V} {A : List Addr} (h : Tree K H d x A) : Trees K H [d] [x] A := by
  unfold Trees
  exact ⟨x, [], A, [], rfl, h, ⟨rfl, rfl⟩, (List.append_nil _).symm⟩
theorem Trees.length : ∀ {ds : List D} {xs : List V} {A : List Addr}, Trees K H ds xs A → ds.length = xs.length
  | [], _, _, h => by obtain ⟨rfl, _⟩ := h; rfl
  | d :: ds, _, _, h => by
    unfold Trees at h
    obtain ⟨x, r, _, _, rfl, _, h2, _⟩ := h
    simp [Trees.length h2]
theorem RS.top {i : Nat} {ds : List D} (h : RS K H0 B0 H σ δ R) (hi : δ[i]? = some (some (.ow (.lst ds)))) : ∃ a xs A, σ[i]? = some (some (.ref a)) ∧ H a = some (.lst xs) ∧ Trees K H ds xs A ∧ R i = a :: A ∧ (a :: A).Nodup := by
  obtain ⟨v, e, t, nd⟩ := h.ow i _ hi
  unfold Tree at t
  obtain ⟨a, xs, A, rfl, ha, ts, e2⟩ := t
  rw [e2] at nd
  exact ⟨a, xs, A, e, ha, ts, e2, nd⟩
/-- the owned list of slot i gets other items -/
theorem RS.put0 {Hold : Hp} {i : Nat} {ds ds' : List D} {a : Addr} {xs' : List V} {A A' : List Addr} (h : RS K H0 B0 Hold σ δ R) (e : Same Hold H) (hi : δ[i]? = some (some (.ow (.lst ds)))) (hv : σ[i]? = some (some (.ref a))) (hR : R i = a :: A) (nd : (a :: A).Nodup)
    (t : Trees K H ds' xs' A') (nd' : A'.Nodup) (sub : ∀ b ∈ A', b ∈ A ∨ Hold b = none) : RS K H0 B0 (upd H a (.lst xs')) σ ((dropBs i δ).set i (some (.ow (.lst ds')))) (setR R i (a :: A')) ∧ Stp R Hold (setR R i (a :: A')) (upd H a (.lst xs')) := by
  have ha : a ∈ R i := by rw [hR]; exact List.mem_cons_self
  obtain ⟨oa, ea, ma⟩ := h.held i a ha
  have nA : ∀ b ∈ A', b ≠ a := fun b hb z => by
    rcases sub b hb with q | q
    · exact (List.nodup_cons.mp nd).1 (z ▸ q)
    · rw [z, ea] at q; cases q
  have mH : Mut (H a) := by rw [e a oa ea]; exact ma
  refine h.rewrite e hi hv ha ?_ (List.nodup_cons.mpr ⟨fun z => nA a z rfl, nd'⟩) fun b hb => ?_
  · unfold Tree
    refine ⟨a, xs', A', rfl, upd_same, Trees.keep (Keep.upd (K := K) (B := fun x => x = a) rfl mH).i ds' t fun b hb o q => ?_, rfl⟩
    rw [upd_ne (nA b hb)]; exact q
  · rw [hR]
    rcases List.mem_cons.mp hb with z | z
    · rw [z]; exact .inl List.mem_cons_self
    · exact (sub b z).imp (List.mem_cons_of_mem _) id
/-- the list that is the k-th item of the owned list of slot i, with items that cannot change, gets other such items -/
theorem Trees.set1 {es : List D} : ∀ {ds : List D} {xs : List V} {A : List Addr} (k : Nat), Trees K H ds xs A → A.Nodup → ds[k]? = some (.lst es) → imms es = true →
    ∃ b ys, xs[k]? = some (.ref b) ∧ H b = some (.lst ys) ∧ b ∈ A ∧ Trees K H es ys [] ∧ ∀ es' ys', Trees K H es' ys' [] → Trees K (upd H b (.lst ys')) (ds.set k (.lst es')) xs A
  | [], _, _, _, _, _, e, _ => by simp at e
  | d :: ds, _, _, 0, h, nd, e, hi => by
    simp at e
    subst e
    unfold Trees at h
    obtain ⟨x, r, A1, A2, rfl, h1, h2, rfl⟩ := h
    unfold Tree at h1
    obtain ⟨b, ys, C, rfl, hb, tb, rfl⟩ := h1
    have eC := Trees.flat es hi tb
    subst eC
    have mH : Mut (H b) := by rw [hb]; exact trivial
    have kt : ∀ o, KeepI K H (upd H b o) := fun o => (Keep.upd (K := K) (B := fun x => x = b) (o := o) rfl mH).i
    refine ⟨b, ys, rfl, hb, by simp, tb, fun es' ys' t' => ?_⟩
    rw [List.set_cons_zero]
    unfold Trees
    refine ⟨.ref b, r, [b], A2, rfl, ?_, Trees.keep (kt _) ds h2 fun c hc o q => ?_, rfl⟩
    · unfold Tree
      exact ⟨b, ys', [], rfl, upd_same, Trees.keep (kt _) es' t' (fun c hc => nomatch hc), rfl⟩
    · have ne : c ≠ b := fun z => (List.nodup_cons.mp nd).1 (by rw [← z]; exact hc)
      rw [upd_ne ne]; exact q
  | d :: ds, _, _, k + 1, h, nd, e, hi => by
    unfold Trees at h
    obtain ⟨x, r, A1, A2, rfl, h1, h2, rfl⟩ := h
    have ndA := List.nodup_append.mp nd
    obtain ⟨b, ys, e1, hb, hbA, tb, up⟩ := Trees.set1 k h2 ndA.2.1 (by simpa using e) hi
    refine ⟨b, ys, by simpa using e1, hb, List.mem_append_right _ hbA, tb, fun es' ys' t' => ?_⟩
    have mH : Mut (H b) := by rw [hb]; exact trivial
    have kt : KeepI K H (upd H b (.lst ys')) := (Keep.upd (K := K) (B := fun x => x = b) rfl mH).i
    rw [List.set_cons_succ]
    unfold Trees
    refine ⟨x, r, A1, A2, rfl, Tree.keep kt d h1 fun c hc o q => ?_, up es' ys' t', rfl⟩
    have ne : c ≠ b := fun z => ndA.2.2 c hc b hbA z
    rw [upd_ne ne]; exact q
theorem RS.put1 {Hold : Hp} {i k : Nat} {ds es : List D} (h : RS K H0 B0 Hold σ δ R) (e : Same Hold H) (hi : δ[i]? = some (some (.ow (.lst ds)))) (hk : ds[k]? = some (.lst es)) (hm : imms es = true) :
    ∃ a xs b ys, σ[i]? = some (some (.ref a)) ∧ Hold a = some (.lst xs) ∧ xs[k]? = some (.ref b) ∧ Hold b = some (.lst ys) ∧ ds.length = xs.length ∧ Trees K H es ys [] ∧ ∀ es' ys', Trees K H es' ys' [] →
      RS K H0 B0 (upd H b (.lst ys')) σ ((dropBs i δ).set i (some (.ow (.lst (ds.set k (.lst es')))))) (setR R i (R i)) ∧ Stp R Hold (setR R i (R i)) (upd H b (.lst ys')) := by
  obtain ⟨a, xs, A, ev, ha, ts, eR, nd⟩ := h.top hi
  obtain ⟨b, ys, e1, hb, hbA, tb, _⟩ := Trees.set1 k ts (List.nodup_cons.mp nd).2 hk hm
  obtain ⟨b', ys', e1', hb', _, tb', up⟩ := Trees.set1 k (ts.mono e) (List.nodup_cons.mp nd).2 hk hm
  rw [e1] at e1'
  cases e1'
  refine ⟨a, xs, b, ys, ev, ha, e1, hb, ts.length, tb.mono e, fun es' zs t' => ?_⟩
  have hba : b ∈ R i := by rw [eR]; exact List.mem_cons_of_mem _ hbA
  have nba : a ≠ b := fun z => (List.nodup_cons.mp nd).1 (z ▸ hbA)
  refine h.rewrite e hi ev hba ?_ (by rw [eR]; exact nd) fun c hc => .inl hc
  rw [eR]
  unfold Tree
  exact ⟨a, xs, A, rfl, by rw [upd_ne nba]; exact e _ _ ha, up es' zs t', rfl⟩
end
end L2

/-! ### E8: methods and stores on owned lists; nested comprehensions; slices; arithmetic in short -/
namespace L2
open PySem PySem.Spec PyProof.Rows

instance {i j : Int} : Decidable (CDiv i j) := by unfold CDiv; infer_instance
instance {i j : Int} : Decidable (CPow i j) := by unfold CPow; infer_instance
instance {i j : Int} : Decidable (CMul i j) := by unfold CMul; infer_instance


def appF : List D → List D → Option (List D) := fun ds args => match args with
  | [d] => if ds.length < sizeLine then some (ds ++ [d]) else none
  | _ => none
/-- insert(k, y) -/
def insK (n : Nat) (i : Int) : Nat := if i < 0 then (i + (n : Int)).toNat else min i.toNat n
def insF : List D → List D → Option (List D) := fun ds args => match args with
  | [.int i, d] => if ds.length < sizeLine ∧ -(2 ^ 63) ≤ i ∧ i < 2 ^ 63 then some (ds.take (insK ds.length i) ++ d :: ds.drop (insK ds.length i)) else none
  | _ => none
theorem Trees.erase {K : PySem.W.Frag} {H : Hp} : ∀ {ds : List D} {xs : List V} {A : List Addr} (k : Nat), Trees K H ds xs A → ∃ A', Trees K H (ds.eraseIdx k) (xs.eraseIdx k) A' ∧ A'.Sublist A
  | [], _, _, _, h => by
    obtain ⟨rfl, rfl⟩ := h
    exact ⟨[], ⟨rfl, rfl⟩, List.Sublist.refl _⟩
  | d :: ds, _, _, 0, h => by
    unfold Trees at h
    obtain ⟨x, r, A1, A2, rfl, h1, h2, rfl⟩ := h
    exact ⟨A2, h2, List.sublist_append_right _ _⟩
  | d :: ds, _, _, k + 1, h => by
    unfold Trees at h
    obtain ⟨x, r, A1, A2, rfl, h1, h2, rfl⟩ := h
    obtain ⟨A', t, sb⟩ := Trees.erase k h2
    refine ⟨A1 ++ A', ?_, List.Sublist.append_left sb _⟩
    rw [List.eraseIdx_cons_succ, List.eraseIdx_cons_succ]
    unfold Trees
    exact ⟨x, _, A1, A', rfl, h1, t, rfl⟩

section
variable {X : Cx} {H0 : Hp} {B0 : Addr → Prop} {fr : Bool} {RX : XR} {e e2 : Expr} {es : List Expr} {pos ap cp : Pos} {x name : Str} {px p2 : Pos} {bid : String} {r : V → List V → Hp → VK → Prop} {F : List D → List D → Option (List D)} {fl : List DE}
/-- x.m(..) at the owned list of slot i, with what cannot change; at its k-th item -/
def m0 (i : Nat) (F : List D → List D → Option (List D)) (fl : List DE) : SS → Option Out := fun δ => (dArgs fl (allV δ)).bind fun args => if imms args = true then (match δ[i]? with
  | some (some (.ow (.lst ds))) => (F ds args).map fun ds' => .nx ((dropBs i δ).set i (some (.ow (.lst ds'))))
  | _ => none) else none

/-- x[k].m(..): the k-th item of the owned list of slot i, a list whose items cannot change -/
def m1 (i : Nat) (fk : DE) (F : List D → List D → Option (List D)) (fl : List DE) : SS → Option Out := fun δ => (fk (allV δ)).bind fun dk => match dk with
  | .int k => (dArgs fl (allV δ)).bind fun args => if imms args = true then (match δ[i]? with
    | some (some (.ow (.lst ds))) => (ixN ds.length k).bind fun j => match ds[j]? with
      | some (.lst es) => if imms es = true then (F es args).bind fun es' => if imms es' = true then some (.nx ((dropBs i δ).set i (some (.ow (.lst (ds.set j (.lst es'))))))) else none else none
      | _ => none
    | _ => none) else none
  | _ => none

/-- x[k] = e, x[k][j] = e with what cannot change -/
def st0 (i : Nat) (fk fv : DE) : SS → Option Out := fun δ => (fv (allV δ)).bind fun d => if d.imm = true then (fk (allV δ)).bind fun dk => (match dk, δ[i]? with
  | .int k, some (some (.ow (.lst ds))) => (ixN ds.length k).map fun j => .nx ((dropBs i δ).set i (some (.ow (.lst (ds.set j d)))))
  | _, _ => none) else none
def st1 (i : Nat) (fk fj fv : DE) : SS → Option Out := fun δ => (fv (allV δ)).bind fun d => if d.imm = true then (fk (allV δ)).bind fun dk => (fj (allV δ)).bind fun dj => (match dk, dj, δ[i]? with
  | .int k, .int j, some (some (.ow (.lst ds))) => (ixN ds.length k).bind fun k' => (match ds[k']? with
    | some (.lst es) => if imms es = true then (ixN es.length j).map fun j' => .nx ((dropBs i δ).set i (some (.ow (.lst (ds.set k' (.lst (es.set j' d))))))) else none
    | _ => none)
  | _, _, _ => none) else none
end
end L2

/-! ### E9: stores; nested comprehensions; slices; defs that take over a list -/
namespace L2
open PySem PySem.Spec PyProof.Rows
theorem Trees.setI {K : PySem.W.Frag} {H : Hp} {d : D} {y : V} (ty : Tree K H d y []) : ∀ {ds : List D} {xs : List V} {A : List Addr} (j : Nat), Trees K H ds xs A → ∃ A', Trees K H (ds.set j d) (xs.set j y) A' ∧ A'.Sublist A
  | [], _, _, _, h => by
    obtain ⟨rfl, rfl⟩ := h
    exact ⟨[], ⟨rfl, rfl⟩, List.Sublist.refl _⟩
  | e :: ds, _, _, 0, h => by
    unfold Trees at h
    obtain ⟨x, r, A1, A2, rfl, h1, h2, rfl⟩ := h
    refine ⟨A2, ?_, List.sublist_append_right _ _⟩
    rw [List.set_cons_zero, List.set_cons_zero]
    unfold Trees
    exact ⟨y, r, [], A2, rfl, ty, h2, rfl⟩
  | e :: ds, _, _, k + 1, h => by
    unfold Trees at h
    obtain ⟨x, r, A1, A2, rfl, h1, h2, rfl⟩ := h
    obtain ⟨A', t, sb⟩ := Trees.setI ty k h2
    refine ⟨A1 ++ A', ?_, List.Sublist.append_left sb _⟩
    rw [List.set_cons_succ, List.set_cons_succ]
    unfold Trees
    exact ⟨x, _, A1, A', rfl, h1, t, rfl⟩
section
variable {X : Cx} {H0 : Hp} {B0 : Addr → Prop} {fr : Bool} {RX : XR} {e ke je : Expr} {pos : Pos} {x : Str} {px p2 p3 : Pos}
theorem s_st0 {i : Nat} {fk fv : DE} (hx : PE X (.Name x px) (tVar i)) (hk : PD X ke fk) (hv : PD X e fv)
    (ha : ∀ v, assign (.Subscript (.Name x px) ke p2) X.env v = (do
      let ov ← holding [v] (eval (.Name x px) X.env)
      let iv ← holding [v, ov] (eval ke X.env)
      standAt p2
      holding [v, ov, iv] (setItem ov iv v)
      release [v, ov, iv] []) := by intro _; rfl)
    (hs : swapsWithSole [.Subscript (.Name x px) ke p2] e pos.line X.env = pure false := by rfl) (hw : swappedStores [.Subscript (.Name x px) ke p2] e X.env = pure none := by rfl)
    (h1 : (assignEach [.Subscript (.Name x px) ke p2] X.env).map (·.2) = [assign (.Subscript (.Name x px) ke p2) X.env] := by rfl) :
    PS X (.Assign [.Subscript (.Name x px) ke p2] e pos) (tS X.K H0 B0 fr RX (st0 i fk fv)) :=
  PS.imp (ps_asg hv (pg_sub hx hk set_list ha) hs hw h1) fun D σ H ⟨δ, R, o, rs, q, kk⟩ => by
    unfold st0 at q
    cases e1 : fv (allV δ) with
    | none => rw [e1] at q; cases q
    | some d =>
    rw [e1] at q
    have q : (if d.imm = true then (fk (allV δ)).bind fun dk => (match dk, δ[i]? with
      | .int k, some (some (.ow (.lst ds))) => (ixN ds.length k).map fun j => Out.nx ((dropBs i δ).set i (some (.ow (.lst (ds.set j d)))))
      | _, _ => none) else none) = some o := q
    split at q
    case isFalse => cases q
    case isTrue hi =>
    cases e2 : fk (allV δ) with
    | none => rw [e2] at q; cases q
    | some dk =>
    rw [e2] at q
    simp only [Option.bind_some] at q
    split at q
    case h_2 => cases q
    case h_1 =>
    rename_i k ds ei
    cases ej : ixN ds.length k with
    | none => rw [ej] at q; cases q
    | some j =>
    rw [ej] at q
    cases q
    obtain ⟨a, xs, A, ev, ha', ts, eR, nd⟩ := rs.top ei
    refine ⟨noB, allV δ, d, .no, rs.all, e1, fun v H1 s1 r1 => ⟨.ref a, ev, noB, allV δ, .int k, .no, rs.all.mono s1, e2, fun v2 H2 s2 r2 => ?_⟩⟩
    cases (show v2 = V.int k from r2)
    refine ⟨a, xs, k, j, rfl, rfl, s2 _ _ (s1 _ _ ha'), by rw [← ts.length]; exact ej, ?_⟩
    obtain ⟨A', t', sb⟩ := Trees.setI ((r1.immTree d hi).mono s2) j (ts.mono (s1.trans s2))
    have P := rs.put0 (s1.trans s2) ei ev eR nd t' ((List.nodup_cons.mp nd).2.sublist sb) fun b hb => .inl (sb.subset hb)
    exact kk σ _ _ P.1 P.2
theorem s_st1 {i : Nat} {fk fj fv : DE} (hx : PE X (.Name x px) (tVar i)) (hk : PD X ke fk) (hj : PD X je fj) (hv : PD X e fv) (hpi : PlainIx ke := by intro _ _; rfl)
    (ha : ∀ v, assign (.Subscript (.Subscript (.Name x px) ke p3) je p2) X.env v = (do
      let ov ← holding [v] (eval (.Subscript (.Name x px) ke p3) X.env)
      let iv ← holding [v, ov] (eval je X.env)
      standAt p2
      holding [v, ov, iv] (setItem ov iv v)
      release [v, ov, iv] []) := by intro _; rfl)
    (hs : swapsWithSole [.Subscript (.Subscript (.Name x px) ke p3) je p2] e pos.line X.env = pure false := by rfl) (hw : swappedStores [.Subscript (.Subscript (.Name x px) ke p3) je p2] e X.env = pure none := by rfl)
    (h1 : (assignEach [.Subscript (.Subscript (.Name x px) ke p3) je p2] X.env).map (·.2) = [assign (.Subscript (.Subscript (.Name x px) ke p3) je p2) X.env] := by rfl) :
    PS X (.Assign [.Subscript (.Subscript (.Name x px) ke p3) je p2] e pos) (tS X.K H0 B0 fr RX (st1 i fk fj fv)) :=
  PS.imp (ps_asg hv (pg_sub (pe_ix ix_list hx hk hpi) hj set_list ha) hs hw h1) fun D σ H ⟨δ, R, o, rs, q, kk⟩ => by
    unfold st1 at q
    cases e1 : fv (allV δ) with
    | none => rw [e1] at q; cases q
    | some d =>
    rw [e1] at q
    have q : (if d.imm = true then (fk (allV δ)).bind fun dk => (fj (allV δ)).bind fun dj => (match dk, dj, δ[i]? with
      | .int k, .int j, some (some (.ow (.lst ds))) => (ixN ds.length k).bind fun k' => (match ds[k']? with
        | some (.lst es) => if imms es = true then (ixN es.length j).map fun j' => Out.nx ((dropBs i δ).set i (some (.ow (.lst (ds.set k' (.lst (es.set j' d))))))) else none
        | _ => none)
      | _, _, _ => none) else none) = some o := q
    split at q
    case isFalse => cases q
    case isTrue hi =>
    cases e2 : fk (allV δ) with
    | none => rw [e2] at q; cases q
    | some dk =>
    cases e3 : fj (allV δ) with
    | none => rw [e2, e3] at q; cases q
    | some dj =>
    rw [e2, e3] at q
    simp only [Option.bind_some] at q
    split at q
    case h_2 => cases q
    case h_1 =>
    rename_i k j ds ei
    cases ek : ixN ds.length k with
    | none => rw [ek] at q; cases q
    | some k' =>
    rw [ek] at q
    have q : (match ds[k']? with
        | some (.lst es) => if imms es = true then (ixN es.length j).map fun j' => Out.nx ((dropBs i δ).set i (some (.ow (.lst (ds.set k' (.lst (es.set j' d))))))) else none
        | _ => none) = some o := q
    split at q
    case h_2 => cases q
    case h_1 es ed =>
    split at q
    case isFalse => cases q
    case isTrue hes =>
    cases ej : ixN es.length j with
    | none => rw [ej] at q; cases q
    | some j' =>
    rw [ej] at q
    cases q
    obtain ⟨a, xs, b, ys, ev, ha', hxb, hb, hln, _, _⟩ := rs.put1 (.refl H) ei ed hes
    have hat : atI xs k = some (.ref b) := by
      unfold atI
      rw [← hln, ek]
      exact hxb
    refine ⟨noB, allV δ, d, .no, rs.all, e1, fun v H1 s1 r1 => ⟨.ref a, ev, noB, allV δ, .int k, .no, rs.all.mono s1, e2, fun v2 H2 s2 r2 => ?_⟩⟩
    cases (show v2 = V.int k from r2)
    refine ⟨a, xs, k, .ref b, rfl, rfl, SqL.of (s2 _ _ (s1 _ _ ha')), hat, noB, allV δ, .int j, .no, (rs.all.mono s1).mono s2, e3, fun v3 H3 s3 r3 => ?_⟩
    cases (show v3 = V.int j from r3)
    obtain ⟨a', xs', b', ys', ev', ha'', hxb', hb', _, tb, up⟩ := rs.put1 ((s1.trans s2).trans s3) ei ed hes
    rw [ev] at ev'; cases ev'
    rw [ha'] at ha''; cases ha''
    rw [hxb] at hxb'; cases hxb'
    rw [hb] at hb'; cases hb'
    refine ⟨b, ys, j, j', rfl, rfl, s3 _ _ (s2 _ _ (s1 _ _ hb)), by rw [← tb.length]; exact ej, ?_⟩
    obtain ⟨A', t', sb⟩ := Trees.setI (((r1.immTree d hi).mono s2).mono s3) j' tb
    have eA : A' = [] := List.sublist_nil.mp sb
    subst eA
    have P := up _ _ t'
    exact kk σ _ _ P.1 P.2
end

/-! ### slices of lists -/
section
variable {X : Cx} {e a b : Expr} {lo hi : Option Expr} {p2 pos : Pos}
theorem PO.imp {eo : Option Expr} {t t' : TO} (h : PO X eo t) (w : ∀ σ H Q, t' σ H Q → t σ H Q) : PO X eo t' := fun pins s σ H Q I q => h pins s σ H Q I (w σ H Q q)
def dNoPart : DS → Option (Option Int) := fun _ => some none
def dPart (f : DE) : DS → Option (Option Int) := fun δ => match f δ with
  | some (.int i) => some (some i)
  | _ => none
def cutL (ds : List D) (lo hi : Option Int) : List D := (ds.drop (HT.sIx ds.length 0 lo)).take (HT.sIx ds.length ds.length hi - HT.sIx ds.length 0 lo)
def dCut (f : DE) (fl fh : DS → Option (Option Int)) : DS → Option (List D) := fun δ => match f δ with
  | some (.lst ds) => (fl δ).bind fun lo => (fh δ).map fun hi => cutL ds lo hi
  | some (.scr ns) => (fl δ).bind fun lo => (fh δ).map fun hi => cutL (ns.map .int) lo hi
  | _ => none
end

/-! ### [elt for x in iter if c], each item all new -/
section
variable {X : Cx} {pos : Pos} {x : Str} {iter elt : Expr} {N' : List Str} {sc : Scope} {ifs : List Expr} {n : Nat} {px : Pos} {fi : DS → Option (List D)} {fc : DS → Option Bool} {fe : DE}
theorem comp_ofN {σ : St} {H : Hp} {Q : VK} (hσ : σ.length = n) (hq : tN X.K (mkL (dComp fi fc fe)) σ H Q) : tComp (tI X.K fi) (gName n) (tT X.K fc) (tN X.K fe) 1 σ H Q := by
  obtain ⟨δ, d0, Sδ, q, k⟩ := hq
  unfold mkL at q
  cases eds : dComp fi fc fe δ with
  | none => rw [eds] at q; cases q
  | some ds =>
  rw [eds] at q
  cases q
  unfold dComp at eds
  cases e1 : fi δ with
  | none => rw [e1] at eds; cases eds
  | some xs =>
  rw [e1] at eds
  have q1 : (if xs.length ≤ sizeLine then compL (fun x => (fc (δ ++ [some x])).bind fun k => if k = true then (fe (δ ++ [some x])).map some else some none) xs else none) = some ds := eds
  split at q1
  case isFalse => cases q1
  case isTrue hsz =>
  refine ⟨noB, δ, xs, .no, Sδ, e1, fun J H1 s1 itw => fun Da hD => ?_⟩
  have hD0 : H Da = none := s1.free hD
  have it := itw (fun a => H1 a = none) fun a ha => ha
  refine ⟨fun i m σ' H' => m = xs.length - i ∧ i ≤ xs.length ∧ (∃ w, σ' = σ ++ [w]) ∧ Same H1 H' ∧ ∃ ys dn rs A, H' Da = some (.lst ys) ∧ Trees X.K H' dn ys A ∧ (Da :: A).Nodup ∧ (∀ a ∈ A, H1 a = none) ∧ ds = dn ++ rs ∧ dn.length ≤ i ∧
    compL (fun x => (fc (δ ++ [some x])).bind fun k => if k = true then (fe (δ ++ [some x])).map some else some none) (xs.drop i) = some rs,
    ⟨xs.length, by simp, Nat.zero_le _, ⟨none, rfl⟩, same_upd hD, [], [], ds, [], upd_same, .nil, List.nodup_cons.mpr ⟨(fun z => nomatch z), List.nodup_nil⟩, (fun a z => nomatch z), rfl, Nat.le_refl _, q1⟩, ?_⟩
  rintro i m σ' H' ⟨rfl, hi', ⟨w, rfl⟩, sm, ys, dn, rs, A, hys, tys, nd, fr, hds, hln, hrs⟩
  have kp : Keep X.K (fun a => noB a ∨ H1 a = none) H1 H' := .same sm
  by_cases hlt : i < xs.length
  · refine .inr ⟨it.go i H' kp hlt, fun σ'' H'' => (i + 1 ≤ xs.length ∧ (∃ w, σ'' = σ ++ [w]) ∧ Same H1 H'' ∧ ∃ ys dn rs A, H'' Da = some (.lst ys) ∧ Trees X.K H'' dn ys A ∧ (Da :: A).Nodup ∧ (∀ a ∈ A, H1 a = none) ∧ ds = dn ++ rs ∧ dn.length ≤ i + 1 ∧
      compL (fun x => (fc (δ ++ [some x])).bind fun k => if k = true then (fe (δ ++ [some x])).map some else some none) (xs.drop (i + 1)) = some rs), fun σ'' H'' h => ⟨xs.length - (i + 1), by omega, rfl, h⟩, fun xv H2 hy => ?_⟩
    obtain ⟨s2, d, hd, rd⟩ := it.yld i H' xv H2 kp hy
    have hdi := hd hlt
    have hx : xs.drop i = d :: xs.drop (i + 1) := by
      obtain ⟨hl, e⟩ := List.getElem?_eq_some_iff.mp hdi
      rw [List.drop_eq_getElem_cons hl, e]
    rw [hx] at hrs
    obtain ⟨o, rs', e2, e3, e4⟩ := compL_cons hrs
    show tT X.K fc ((σ ++ [w]).set n (some xv)) H2 _
    rw [← hσ, set_snoc]
    have S2 : RepS X.K H2 noB (σ ++ [some xv]) (δ ++ [some d]) := (((Sδ.mono s1).mono sm).mono s2).snoc (rd.anti fun a z => z.elim)
    have hl2 : ys.length < sizeLine := by
      have := tys.length
      omega
    cases ec : fc (δ ++ [some d]) with
    | none => rw [ec] at e2; cases e2
    | some kk =>
      rw [ec] at e2
      have e2' : (if kk = true then (fe (δ ++ [some d])).map some else some none) = some o := e2
      refine ⟨noB, δ ++ [some d], kk, .no, S2, ec, fun H3 s3 => ?_⟩
      cases kk with
      | false =>
        rw [if_neg Bool.false_ne_true] at e2'
        rw [if_neg Bool.false_ne_true]
        cases e2'
        exact ⟨hlt, ⟨_, rfl⟩, (sm.trans s2).trans s3, ys, dn, rs', A, s3 _ _ (s2 _ _ hys), (tys.mono s2).mono s3, nd, fr, by rw [hds, e4]; rfl, Nat.le_succ_of_le hln, e3⟩
      | true =>
        rw [if_pos rfl] at e2'
        rw [if_pos rfl]
        cases ey : fe (δ ++ [some d]) with
        | none => rw [ey] at e2'; cases e2'
        | some y =>
          rw [ey] at e2'
          cases e2'
          refine ⟨δ ++ [some d], y, S2.mono s3, ey, fun yv H5 A5 s5 t5 nd5 fr5 => ⟨ys, s5 _ _ (s3 _ _ (s2 _ _ hys)), hl2, ?_⟩⟩
          have s15 : Same H' H5 := (s2.trans s3).trans s5
          have hu : H5 Da = some (.lst ys) := s15 _ _ hys
          have mu : Mut (H5 Da) := by rw [hu]; exact trivial
          have hDa3 : H3 Da = some (.lst ys) := s3 _ _ (s2 _ _ hys)
          have nDa : Da ∉ A ++ A5 := fun z => by
            rcases List.mem_append.mp z with z | z
            · exact (List.nodup_cons.mp nd).1 z
            · have := fr5 Da z
              rw [hDa3] at this; cases this
          refine ⟨hlt, ⟨_, rfl⟩, fun b u hb => ?_, ys ++ [yv], dn ++ [y], rs', A ++ A5, upd_same, ?_, List.nodup_cons.mpr ⟨nDa, ?_⟩, fun a ha => ?_, by rw [hds, e4, List.append_assoc]; rfl, by rw [List.length_append]; simp; omega, e3⟩
          · rw [upd_ne (ne_of_none hb hD)]
            exact s15 _ _ (sm _ _ hb)
          · refine Trees.keep (Keep.upd (K := X.K) (B := fun x => x = Da) rfl mu).i _ ((tys.mono s15).snoc t5) fun b hb u q => ?_
            have ne : b ≠ Da := fun z => nDa (z ▸ hb)
            rw [upd_ne ne]; exact q
          · refine List.nodup_append.mpr ⟨(List.nodup_cons.mp nd).2, nd5, fun b hb c hc z => ?_⟩
            subst z
            obtain ⟨u, q, _⟩ := Trees.held _ tys b hb
            have := fr5 b hc
            rw [(s2.trans s3) _ _ q] at this; cases this
          · rcases List.mem_append.mp ha with z | z
            · exact fr a z
            · exact sm.free ((s2.trans s3).free (fr5 a z))
  · have e : i = xs.length := by omega
    subst e
    refine .inl ⟨it.stop _ H' kp (Nat.le_refl _), ?_⟩
    rw [List.drop_length] at hrs
    cases hrs
    rw [List.append_nil] at hds
    subst hds
    refine k (.ref Da) H' (Da :: A) (s1.trans sm) ?_ nd fun a ha => ?_
    · unfold Tree
      exact ⟨Da, ys, A, rfl, hys, tys, rfl⟩
    · rcases List.mem_cons.mp ha with z | z
      · rw [z]; exact hD0
      · exact s1.free (fr a z)
theorem pn_comp (hc : X.calm = true) (S : CompScope X.N X.env.scope.names N' 1 sc) (hn : n = X.N.length) (hi : PID X (.Name x px) iter fi)
    (hg : ∀ s H fp pins E, PG (cxComp X N' sc s H fp pins E) (.Name x px) (gName n)) (ht : ∀ s H fp pins E, PIfs (cxComp X N' sc s H fp pins E) ifs (tT X.K fc)) (he : ∀ s H fp pins E, PE (cxComp X N' sc s H fp pins E) elt (tN X.K fe))
    (hs : ∀ x, foldedSetIterable iter X.env x = pure x := by intro _; rfl) : PN X (.ListComp elt [⟨.Name x px, iter, ifs, 0⟩] sc pos) (mkL (dComp fi fc fe)) := by
  intro pins s σ H Q I hq
  exact pe_comp hc S hi ⟨hg, ht, he⟩ hs pins s σ H Q I (comp_ofN (by rw [hn, I.len]) hq)
theorem pas_cN {i : Nat} {y : Str} {py spos : Pos} (hN : X.N.Nodup) (hy : X.N[i]? = some y) (hyl : X.env.scope.names.lookup y = some .local) (hc : X.calm = true) (S : CompScope X.N X.env.scope.names N' 1 sc) (hn : n = X.N.length) (hi : PID X (.Name x px) iter fi)
    (hg : ∀ s H fp pins E, PG (cxComp X N' sc s H fp pins E) (.Name x px) (gName n)) (ht : ∀ s H fp pins E, PIfs (cxComp X N' sc s H fp pins E) ifs (tT X.K fc)) (he : ∀ s H fp pins E, PE (cxComp X N' sc s H fp pins E) elt (tN X.K fe))
    (hsw : swapsWith (.ListComp elt [⟨.Name x px, iter, ifs, 0⟩] sc pos) (some (.Name y py)) spos.line X.env = pure true := by rfl) (hs : ∀ x, foldedSetIterable iter X.env x = pure x := by intro _; rfl) :
    PS X (.Assign [.Name y py] (.ListComp elt [⟨.Name x px, iter, ifs, 0⟩] sc pos) spos) (tAsg (tN X.K (mkL (dComp fi fc fe))) (gName i)) := by
  intro pins s σ H D I hq
  exact ps_setc hc S hN hy hyl hi ⟨hg, ht, he⟩ hsw hs pins s σ H D I (comp_ofN (by rw [hn, I.len]) hq)
end
end L2

/-! ### E10: arithmetic in short; a def that takes over its first argument; the law itself -/
namespace L2
open PySem PySem.Spec PyProof.Rows
section
variable {X : Cx} {a b : Expr} {pos : Pos} {f g : DE}
def addI : D → D → Option D := iop fun i j => some (.int (i + j))
def subI : D → D → Option D := iop fun i j => some (.int (i - j))
def mulI : D → D → Option D := iop fun i j => if CMul i j then some (.int (i * j)) else none
def divI : D → D → Option D := iop fun i j => if CDiv i j then some (.int (i / j)) else none
def modI : D → D → Option D := iop fun i j => if 0 < j then some (.int (i % j)) else none
def powI : D → D → Option D := iop fun i j => if CPow i j then some (.int (i ^ j.toNat)) else none
def ltI : D → D → Option D := iop fun i j => some (.bl (decide (i < j)))
def leI : D → D → Option D := iop fun i j => some (.bl (decide (i ≤ j)))
def gtI : D → D → Option D := iop fun i j => some (.bl (decide (j < i)))
def geI : D → D → Option D := iop fun i j => some (.bl (decide (j ≤ i)))
theorem pd_add (ha : PD X a f) (hb : PD X b g) : PD X (.BinOp a .Add b pos) (d2 addI f g) := pd_op op_add o2_int0 ha hb
theorem pd_sub (ha : PD X a f) (hb : PD X b g) : PD X (.BinOp a .Sub b pos) (d2 subI f g) := pd_op op_sub o2_int0 ha hb
theorem pd_mul (ha : PD X a f) (hb : PD X b g) : PD X (.BinOp a .Mult b pos) (d2 mulI f g) := pd_op op_mul o2_int ha hb
theorem pd_div (ha : PD X a f) (hb : PD X b g) : PD X (.BinOp a .FloorDiv b pos) (d2 divI f g) := pd_op op_fdiv o2_int ha hb
theorem pd_mod (ha : PD X a f) (hb : PD X b g) : PD X (.BinOp a .Mod b pos) (d2 modI f g) := pd_op op_mod o2_int ha hb
theorem pd_pow (ha : PD X a f) (hb : PD X b g) : PD X (.BinOp a .Pow b pos) (d2 powI f g) := pd_op op_pow o2_int ha hb
theorem pd_lt (ha : PD X a f) (hb : PD X b g) : PD X (.Compare a [.Lt] [b] pos) (d2 ltI f g) := pd_cmp op_lt o2_bool0 ha hb (nomark _)
theorem pd_eq (hu : X.A.units + 64 < cLine) (ha : PD X a f) (hb : PD X b g) : PD X (.Compare a [.Eq] [b] pos) (d2 eqD f g) := pd_cmp (op_eqD hu) o2_eq ha hb (nomark _)
theorem pd_ne (hu : X.A.units + 64 < cLine) (ha : PD X a f) (hb : PD X b g) : PD X (.Compare a [.NotEq] [b] pos) (d2 neD f g) := pd_cmp (op_neD hu) o2_ne ha hb (nomark _)
theorem pt_lt (ha : PD X a f) (hb : PD X b g) : PTD X (.Compare a [.Lt] [b] pos) (dTest (d2 ltI f g)) := pt_cmpD op_lt o2_bool0 ha hb (nomark _)
theorem pt_gt (ha : PD X a f) (hb : PD X b g) : PTD X (.Compare a [.Gt] [b] pos) (dTest (d2 gtI f g)) := pt_cmpD op_gt o2_bool0 ha hb (nomark _)
theorem pt_eq (hu : X.A.units + 64 < cLine) (ha : PD X a f) (hb : PD X b g) : PTD X (.Compare a [.Eq] [b] pos) (dTest (d2 eqD f g)) := pt_cmpD (op_eqD hu) o2_eq ha hb (nomark _)
theorem pt_ne (hu : X.A.units + 64 < cLine) (ha : PD X a f) (hb : PD X b g) : PTD X (.Compare a [.NotEq] [b] pos) (dTest (d2 neD f g)) := pt_cmpD (op_neD hu) o2_ne ha hb (nomark _)
theorem pt_nin (hu : X.A.units + 64 < cLine) (ha : PD X a f) (hb : PD X b g) (hm : behindInMarks .NotIn b = false := by rfl) : PTD X (.Compare a [.NotIn] [b] pos) (dTest (d2 ninD f g)) := pt_cmpD (op_ninD hu) o2_nin ha hb hm
end

/-! ### a def that takes over a list -/
section
variable {P : Program} {w : World} {K : PySem.W.Frag} {mg : Str → Option Value} {base : Heap}
end
/-! x = f(x, ..): the owned list of slot i goes and comes -/
section
variable {X : Cx} {H0 : Hp} {B0 : Addr → Prop} {fr : Bool} {RX : XR} {e : Expr} {es : List Expr} {pos p px px2 cp : Pos} {x fn : Str} {k : Nat} {F : List D → Option D} {fl : List DE}
def asgM (i : Nat) (F : List D → Option D) (fl : List DE) : SS → Option Out := fun δ => (dArgs fl (allV δ)).bind fun args => if imms args = true then (match δ[i]? with
  | some (some (.ow d0)) => (F (d0 :: args)).map fun d => .nx ((dropBs i δ).set i (some (.ow d)))
  | _ => none) else none
end

/-! ### the law: a list of at most 63 ints is handed in, True comes out -/
def spLaw (K : PySem.W.Frag) (F : List D → Option D) : Sp := fun vs H Q _ => ∃ (a : Addr) (ns : List Int), vs = [.ref a] ∧ SqF K H a (ns.map V.int) ∧ F [.scr ns] = some (.bl true) ∧ ∀ H', Q (.bl true) H'
theorem only_sqF {K : PySem.W.Frag} {H : Hp} {a : Addr} {xs : List V} (hO : Only H) (h : SqL K H a xs) : SqF K H a xs := by
  rcases h with (h | h) | h
  · rcases hO a with z | ⟨o, ys, z⟩ <;> (rw [h] at z; cases z)
  · exact .inl h
  · exact .inr h
/-- the law's def, by its promise as a def -/
theorem law_of {P : Program} {w : World} {K : PySem.W.Frag} {mg : Str → Option Value} {base : Heap} {k : Nat} {f : Addr} {fd : FuncData} {ps : List Str} {F : List D → Option D} (h : FnOk P w K mg base CX0 k f fd ps (spN K F)) : FnOk P w K mg base CX0 k f fd ps (spLaw K F) := by
  refine h.imp fun vs H Q E z => ?_
  obtain ⟨a, ns, rfl, hq, e, q⟩ := z
  refine ⟨[.scr ns], .bl true, .cons ?_ .nil, e, fun v H' A s t nd fr => ?_⟩
  · unfold Rep
    exact ⟨a, rfl, hq⟩
  · cases (show v = V.bl true ∧ _ from t).1
    exact q H'
end L2

/-! ### E11: a new list goes into an owned one -/
namespace L2
open PySem PySem.Spec PyProof.Rows
section
variable {X : Cx} {H0 : Hp} {B0 : Addr → Prop} {fr : Bool} {RX : XR} {e e2 : Expr} {pos ap cp : Pos} {x : Str} {px : Pos} {f g : DE}
def app0N (i : Nat) (f : DE) : SS → Option Out := fun δ => (f (allV δ)).bind fun d => (match δ[i]? with
  | some (some (.ow (.lst ds))) => (appF ds [d]).map fun ds' => .nx ((dropBs i δ).set i (some (.ow (.lst ds'))))
  | _ => none)
def ins0N (i : Nat) (f g : DE) : SS → Option Out := fun δ => (f (allV δ)).bind fun k => if k.imm = true then (g (allV δ)).bind fun d => (match δ[i]? with
  | some (some (.ow (.lst ds))) => (insF ds [k, d]).map fun ds' => .nx ((dropBs i δ).set i (some (.ow (.lst ds'))))
  | _ => none) else none
end
end L2

/-! ### E12: tuple.index -/
namespace L2
open PySem PySem.Spec PyProof.Rows
open PySem.MeetsSeq PySem.MeetsSeq2 PySem.MeetsSeq3 PySem.SeqRoads2 PySem.SeqAt
open PySem.AutoSeq1 (wpAny_loadPart')
section
variable {X : Cx}
variable {o e : Expr} {es : List Expr} {to : TE} {t : TA} {name : Str} {apos cpos : Pos} {id : String} {r : V → List V → Hp → VK → Prop}
end
end L2

/-! ### E13: tuple(range(..)), list(range(..)), int(..) -/
namespace L2
open PySem PySem.Spec PyProof.Rows
open PySem.AutoSeq1 (wpAny_loadPart')
section
variable {prog : Program} {w : World} {A : Around} {E : Value → Shared → Prop} {s : Shared}
end
/-! range(..) as a value -/
def tRngV1 (ta : TA) : TE := fun σ H Q => ta σ H fun vs H1 => ∃ j : Int, vs = [.int j] ∧ ∀ p, H1 p = none → Q (.ref p) (upd H1 p (.rng 0 j))
section
variable {X : Cx}
theorem pe_range1 {a : Expr} {ta : TA} {p pos : Pos} (hg : Gl X "range") (hm : X.mg "range" = none) (ha : PA X [a] ta) (hs : starEach [a] X.env = [(false, eval a X.env)] := by rfl) : PE X (.Call (.Name "range" p) [a] [] pos) (tRngV1 ta) := by
  intro pins s σ H Q I h
  refine wpAny_Call_Name_kw (ld_blt I hg hm boot_range (PyProof.Rows.callWith_type1 (thn (ha pos pins s σ H _ I h) fun us s1 ⟨vs, H1, I1, r1, q1⟩ => ?_) hs rfl))
  obtain ⟨j, e, q⟩ := q1
  subst e
  cases r1 with
  | cons r rr =>
    cases rr
    obtain ⟨t, rfl⟩ := r
    refine call_range_1 ⟨.ref s1.heap.objs.size, _, I1.laid (fun b o e => Heap.get?_push_of_some _ e) (Nat.le_refl _) ?_, rfl, q _ (I1.hok.fresh (Nat.le_refl _))⟩
    exact ⟨_, _, _, Heap.get?_push_size _ rfl⟩
def rngV (lo : Int) (n : Nat) : List V := (List.range n).map fun i => .int (lo + (i : Nat))
theorem items_vals {lo : Int} : ∀ {n : Nat} {acc : Array Value}, ItemsOf (fun i v => ∃ t, v = Value.int (lo + i * 1) t) acc n → Vals (rngV lo n) acc.toList := by
  intro n acc h
  obtain ⟨hs, hv⟩ := h
  have key : ∀ (vs : List Value) (k : Nat), (∀ j v, vs[j]? = some v → ∃ t, v = Value.int (lo + ((k + j : Nat) : Int)) t) → Vals ((List.range' k vs.length).map fun i => V.int (lo + (i : Nat))) vs := by
    intro vs
    induction vs with
    | nil => intro k _; exact .nil
    | cons x r ih =>
      intro k hx
      rw [List.length_cons, List.range'_succ, List.map_cons]
      obtain ⟨t, e⟩ := hx 0 x rfl
      refine .cons ⟨t, by simpa using e⟩ (ih (k + 1) fun j v hj => ?_)
      obtain ⟨t, e⟩ := hx (j + 1) v (by simpa using hj)
      exact ⟨t, by rw [e]; congr 1 <;> omega⟩
  have := key acc.toList 0 fun j v hj => by
    obtain ⟨t, e⟩ := hv j v (by simpa using hj)
    exact ⟨t, by rw [e]; congr 1 <;> omega⟩
  rw [← List.range_eq_range', Array.length_toList, hs] at this
  exact this
theorem rngV_len {lo : Int} {n : Nat} : (rngV lo n).length = n := by simp [rngV]
theorem call_listR (hc : X.calm = true) : CallR X (.type "list") (fun xs H Q => ∃ (p : Addr) (lo hi : Int), xs = [.ref p] ∧ H p = some (.rng lo hi) ∧ (-(2 ^ 62) ≤ lo ∧ lo < 2 ^ 62 ∧ -(2 ^ 62) ≤ hi ∧ hi < 2 ^ 62) ∧ (hi - lo).toNat ≤ sizeLine ∧ ∀ l, H l = none → Q (.ref l) (upd H l (.lst (rngV lo (hi - lo).toNat)))) := by
  intro pins s σ H xs us Q I r h
  obtain ⟨p, lo, hi, rfl, hp, hb, hl, q⟩ := h
  obtain ⟨u, rfl, rx⟩ := vals1 r
  cases rx
  obtain ⟨t, u, v, e⟩ := I.hok p _ hp
  refine call_list_range (I.ok.hd hc) e (small_one hb.1 hb.2.1 hb.2.2.1 hb.2.2.2) (n := (hi - lo).toNat) (by rw [rangeSize_one]; split <;> omega) (by rw [sizeLine_eq] at hl; omega) fun h' tk acc' c' kp e2 it => ?_
  have I2 : Inv X pins σ (upd H s.heap.objs.size (.lst (rngV lo (hi - lo).toNat))) { s with heap := h', toks := tk } :=
    I.laid kp (Nat.le_refl _) (show ObjOk X.prog X.w _ h' _ (.lst (rngV lo (hi - lo).toNat)) from ⟨by rw [rngV_len]; exact hl, acc'.toList, c', items_vals it, by simpa using e2⟩)
  exact ⟨.ref s.heap.objs.size, _, I2, rfl, q _ (I.hok.fresh (Nat.le_refl _))⟩
/-! as trees -/
def dSmall (g : DS → Option (List D)) : DS → Option (List D) := fun δ => (g δ).bind fun ds => if ds.length ≤ sizeLine then some ds else none
theorem reps_rng {K : PySem.W.Frag} {H : Hp} {B : Addr → Prop} {lo : Int} {n : Nat} : Reps K H B (rngL lo n) (rngV lo n) := by
  unfold rngL rngV
  generalize List.range n = l
  induction l with
  | nil => exact .nil
  | cons k r ih => exact .cons (by unfold Rep; rfl) ih
theorem rng1_some {f : DE} {δ : DS} {ds : List D} (h : dRng1 f δ = some ds) : ∃ j : Int, f δ = some (.int j) ∧ -(2 ^ 62) ≤ j ∧ j < 2 ^ 62 ∧ ds = rngL 0 j.toNat := by
  unfold dRng1 at h
  split at h
  · rename_i j e
    split at h
    · rename_i hb
      cases h
      exact ⟨j, e, hb.1, hb.2, rfl⟩
    · cases h
  · cases h
theorem small_some {g : DS → Option (List D)} {δ : DS} {ds : List D} (h : dSmall g δ = some ds) : g δ = some ds ∧ ds.length ≤ sizeLine := by
  unfold dSmall at h
  cases e : g δ with
  | none => rw [e] at h; cases h
  | some es =>
    rw [e] at h
    have h : (if es.length ≤ sizeLine then some es else none) = some ds := h
    split at h
    · cases h; exact ⟨rfl, by assumption⟩
    · cases h
theorem rngL_len {lo : Int} {n : Nat} : (rngL lo n).length = n := by simp [rngL]
variable {a b : Expr} {f g : DE} {p p2 pos pos2 : Pos}
theorem pf_listR1 (hc : X.calm = true) (hg : Gl X "list") (hm : X.mg "list" = none) (hg2 : Gl X "range") (hm2 : X.mg "range" = none) (h : PD X a f) (he2 : starEach [a] X.env = [(false, eval a X.env)] := by rfl)
    (he : starEach [.Call (.Name "range" p2) [a] [] pos2] X.env = [(false, eval (.Call (.Name "range" p2) [a] [] pos2) X.env)] := by rfl) : PF X (.Call (.Name "list" p) [.Call (.Name "range" p2) [a] [] pos2] [] pos) (dSmall (dRng1 f)) :=
  (pe_callTy (call_listR hc) hg hm PyProof.Rows.Boot.«list» (pa_cons (pe_range1 hg2 hm2 (pa_cons h pa_nil he2) he2) pa_nil he) (by decide) (by decide) he rfl).imp fun σ H Q ⟨B, δ, ds, hB, S, e1, k⟩ => by
    obtain ⟨e2, hl⟩ := small_some e1
    obtain ⟨j, e3, h1, h2, rfl⟩ := rng1_some e2
    rw [rngL_len] at hl
    refine ⟨B, δ, _, hB, S, e3, fun v H1 s1 r1 => ?_⟩
    unfold Rep at r1
    subst r1
    refine ⟨j, rfl, fun r hr => ⟨r, 0, j, rfl, upd_same, ⟨by omega, by omega, h1, h2⟩, by simpa using hl, fun l hl' => ?_⟩⟩
    refine k l _ _ ((s1.trans (same_upd hr)).trans (same_upd hl')) (s1.free ((same_upd (H := H1) hr).free hl')) upd_same ?_
    rw [Int.sub_zero]
    exact reps_rng
/-- int(x) -/
def intF : List D → Option D
  | [.int i] => some (.int i)
  | [.bl k] => some (.int (if k then 1 else 0))
  | _ => none
end
end L2

/-! ### E14: enumerate(xs), its pairs taken apart at once -/
namespace L2
open PySem PySem.Spec PyProof.Rows
section
variable {X : Cx} {pins : List (Addr × Obj)} {σ : St} {H : Hp} {s : Shared} {h' : Heap}
theorem Inv.turnedL {t' : Nat} {fp : List Addr} (I : Inv X pins σ H s) (k : ∀ b o, b ∉ fp → s.heap.get? b = some o → h'.get? b = some o) (hf : ∀ b ∈ fp, FpOk X pins H b) : Inv X pins σ H { s with heap := h', toks := t' } := by
  have nit : ∀ b u, H b = some u → b ∉ fp := fun b u e z => by rw [(hf b z).1] at e; cases e
  have nL : X.env.locals ∉ fp := fun z => (hf _ z).2.1 rfl
  refine I.step (g' := s.gens) (d' := s.drawn) (ch := fp) (fun b hb => ?_) (fun b o _ _ hc e _ => k b o hc e) (fun b o _ _ hc e _ => ⟨o.slots, k b o hc e⟩) (fun _ _ _ _ n => n)
    (fun b o hc e => ⟨o, k b o hc e⟩) (fun _ _ e => e) (fun _ _ _ e => e) (fun b ps e => ⟨#[], by rw [e]; simp⟩) (fun m hm => ?_) (fun b u e => ?_) I.bare
  · obtain ⟨f0, f1, f2, f3, f4, f5⟩ := hf b hb
    exact ⟨f3, f1, f4, f5⟩
  · obtain ⟨o, es, ep, ho, r⟩ := hm
    exact ⟨o, es, ep, k _ o nL ho, r⟩
  · refine (I.hok b u e).stay (fun c v hc q => k c v ?_ q) (fun _ q => q) fun _ _ q => q
    rcases hc with z | z
    · rw [z]; exact nit b u e
    · exact nit c _ z
/-- (0, first), (1, second), .. of the list at a -/
def Ite (K : PySem.W.Frag) (a : Addr) : It :=
  ⟨fun i H => ∃ xs x, SqL K H a xs ∧ xs[i]? = some x, fun i H v H' => ∃ p x, H p = none ∧ v = .ref p ∧ H' = upd H p (.tup [.int (i : Nat), x]) ∧ ∀ xs, SqL K H a xs → xs[i]? = some x, fun i H => ∃ xs, SqL K H a xs ∧ xs.length ≤ i⟩
theorem turn_enum {P : Program} {w : World} {K : PySem.W.Frag} {elts : List Expr} {x1} {tp : Pos} (a e it : Addr) (hne : e ≠ it) :
    Turn P w K (.Tuple elts x1 tp) (Ite K a) [e, it] e (fun i h => (∃ old, IsEnum h e it ((i : Nat) : Int) old) ∧ h.IsListIter it a i) where
  mem := by simp
  obj := fun i h st b hb => by
    obtain ⟨⟨old, he⟩, o, eo, c, d⟩ := st
    rcases List.mem_cons.mp hb with z | z
    · subst z
      exact ⟨_, he, fun v z => by cases z⟩
    · have z : b = it := by simpa using z
      subst z
      exact ⟨o, eo, fun v z => by rw [d] at z; cases z⟩
  keep := fun i h h' st k => by
    obtain ⟨⟨old, he⟩, hi⟩ := st
    exact ⟨⟨old, k e (by simp) _ he⟩, hi.at fun o q => k it (by simp) o q⟩
  item := by
    intro X hP hw hK hc i pins s σ H E I hf st hg
    subst hP hw hK
    obtain ⟨xs, x, hq, hx⟩ := hg
    obtain ⟨its, rv, p, hz⟩ := I.list hq
    obtain ⟨u, hu, ru⟩ := rv.get hx
    obtain ⟨⟨old, he⟩, hi⟩ := st
    refine wpAny_pyNext_enum_item he hi p.isList (x := u) (by simpa using hu) hne fun h1 heo hi1 ht1 hz1 hk1 => ⟨_, rfl, ?_⟩
    refine wpAny_letOwnedTupleGo_enum heo fun h2 he2 hs2 => ?_
    have hs2 : Heap.SameBut e h1 h2 := hs2
    have elt : e < s.heap.objs.size := Heap.lt_size he
    obtain ⟨oi, eoi, _⟩ := id hi
    have ilt : it < s.heap.objs.size := Heap.lt_size eoi
    have hp : H s.heap.objs.size = none := I.hok.fresh (Nat.le_refl _)
    have I1 : Inv X pins σ (upd H s.heap.objs.size (.tup [.int (i : Nat), x])) { s with heap := s.heap.push { cls := .type "tuple", data := .seq #[.int (i : Nat) s.toks, u] }, toks := s.toks + 1 } :=
      I.laid (fun b o q => Heap.get?_push_of_some _ q) (Nat.le_refl _) (show ObjOk X.prog X.w _ _ _ (.tup [.int (i : Nat), x]) from ⟨by show 2 ≤ sizeLine; rw [sizeLine_eq]; decide, [.int (i : Nat) s.toks, u], .cons ⟨_, rfl⟩ (.cons ru .nil), TupN.new _ _⟩)
    have hf1 : ∀ b ∈ [e, it], FpOk X pins (upd H s.heap.objs.size (.tup [.int (i : Nat), x])) b := fun b hb => by
      obtain ⟨f0, f⟩ := hf b hb
      refine ⟨?_, f⟩
      have : b ≠ s.heap.objs.size := by
        rcases List.mem_cons.mp hb with z | z
        · rw [z]; exact Nat.ne_of_lt elt
        · have z : b = it := by simpa using z
          rw [z]; exact Nat.ne_of_lt ilt
      rw [upd_ne this]
      exact f0
    have kk : ∀ b o, b ∉ [e, it] → (s.heap.push { cls := .type "tuple", data := .seq #[.int (i : Nat) s.toks, u] }).get? b = some o → h2.get? b = some o := by
      intro b o hb q
      have hbe : b ≠ e := fun z => hb (by simp [z])
      have hbi : b ≠ it := fun z => hb (by simp [z])
      rw [hs2.2 b hbe]
      by_cases hbs : b = s.heap.objs.size
      · subst hbs
        rw [ht1]
        have : (s.heap.push { cls := .type "tuple", data := .seq #[.int (i : Nat) s.toks, u] }).get? s.heap.objs.size = some { cls := .type "tuple", data := .seq #[.int (i : Nat) s.toks, u] } := Heap.get?_push_size _ rfl
        exact this.symm.trans q
      · have q' : s.heap.get? b = some o := (Heap.get?_push_ne s.heap _ _ hbs).symm.trans q
        exact hk1 b o hbe hbi q'
    have I2 : Inv X pins σ (upd H s.heap.objs.size (.tup [.int (i : Nat), x])) { s with heap := h2, toks := s.toks + 1 } := Inv.turnedL (s := { s with heap := s.heap.push { cls := .type "tuple", data := .seq #[.int (i : Nat) s.toks, u] }, toks := s.toks + 1 }) (h' := h2) (t' := s.toks + 1) (fp := [e, it]) I1 kk hf1
    refine ⟨.ref s.heap.objs.size, _, I2, rfl, ⟨_, x, hp, rfl, rfl, fun ys hy => by rw [I.list_inj hy hq]; exact hx⟩, ⟨⟨u, ?_⟩, ?_⟩, fun b hb => (hf1 b hb).1⟩
    · have : (((i + 1 : Nat) : Int)) = ((i : Int) + 1) := by omega
      rw [this]
      exact he2
    · exact hi1.at fun o q => (hs2.2 it (Ne.symm hne)).trans q
  done := by
    intro X hP hw hK hc i pins s σ H E I hf st hg
    subst hP hw hK
    obtain ⟨xs, hq, hx⟩ := hg
    obtain ⟨its, rv, p, hz⟩ := I.list hq
    obtain ⟨⟨old, he⟩, hi⟩ := st
    have hl := rv.length
    exact wpAny_pyNext_enum_end (I.ok.hd hc) he hi p.isList (by simp; omega) fun h' eb => ⟨rfl, I.turnedL (t' := s.toks) (fp := [e, it]) (fun b o hb q => eb b o (fun z => hb (by simp [z])) q) hf⟩
  self := fun _ _ _ _ _ st h => let ⟨⟨_, he⟩, _⟩ := st; wpAny_pyIter_enum he h
def iEnum (K : PySem.W.Frag) (tl : TE) : TI := fun σ H R => tl σ H fun x H1 => ∃ a, [x] = [V.ref a] ∧ (∃ xs, SqL K H1 a xs) ∧ R (Ite K a) H1
theorem pi_enum {elts : List Expr} {x1} {tp p pos : Pos} {l : Expr} {tl : TE} (hg : Gl X "enumerate") (hm : X.mg "enumerate" = none) (hl : PE X l tl) (hs : starEach [l] X.env = [(false, eval l X.env)] := by rfl) :
    PI X (.Tuple elts x1 tp) (.Call (.Name "enumerate" p) [l] [] pos) (iEnum X.K tl) := by
  intro pins s σ H R I h
  have hA : PA X [l] (fun σ H Q => tl σ H fun x H1 => Q [x] H1) := (pa_cons hl pa_nil (by rw [hs]; rfl)).imp fun σ H Q q => q
  refine wpAny_Call_Name_kw (ld_blt I hg hm boot_enumerate (PyProof.Rows.callWith_type1 (thn (hA pos pins s σ H (fun vs H1 => ∃ a, vs = [V.ref a] ∧ (∃ xs, SqL X.K H1 a xs) ∧ R (Ite X.K a) H1) I h) fun us s1 ⟨vs, H1, I1, r1, q1⟩ => ?_) hs rfl))
  obtain ⟨a, rfl, ⟨xs, hq⟩, q⟩ := q1
  obtain ⟨u, rfl, ru⟩ := r1.one
  cases ru
  obtain ⟨its, rv, pl, hz⟩ := I1.list hq
  refine call_enumerate_list pl.isList fun h1 he hi hsz kp => ?_
  refine wpAny_pyIter_enum he ?_
  have I2 : Inv X pins σ H1 { s1 with heap := h1 } := I1.kept (t' := s1.toks) kp
  refine ⟨s1.heap.objs.size + 1, [s1.heap.objs.size + 1, s1.heap.objs.size], _, _, H1, rfl, I2, turn_enum a _ _ (Nat.succ_ne_self _), ⟨⟨_, he⟩, hi⟩, fun b hb => ?_, q⟩
  have hb' : s1.heap.objs.size ≤ b := by
    rcases List.mem_cons.mp hb with z | z
    · rw [z]; exact Nat.le_succ _
    · have z : b = s1.heap.objs.size := by simpa using z
      rw [z]; exact Nat.le_refl _
  exact I1.fpOk hb' (I1.hok.fresh hb')
end
/-! as trees -/
def enumFrom (k : Nat) : List D → List D
  | [] => []
  | d :: r => .tup [.int (k : Nat), d] :: enumFrom (k + 1) r
theorem enum_get : ∀ {ds : List D} {k i : Nat}, (enumFrom k ds)[i]? = (ds[i]?).map fun d => .tup [.int ((k + i : Nat) : Int), d]
  | [], _, _ => by simp [enumFrom]
  | d :: r, k, 0 => by simp [enumFrom]
  | d :: r, k, i + 1 => by
    show (enumFrom (k + 1) r)[i]? = (r[i]?).map _
    rw [enum_get]
    congr 1
    funext d
    congr 3
    omega
theorem enum_len : ∀ {ds : List D} {k : Nat}, (enumFrom k ds).length = ds.length
  | [], _ => rfl
  | d :: r, k => by show (enumFrom (k + 1) r).length + 1 = r.length + 1; rw [enum_len]
theorem itd_enum {K : PySem.W.Frag} {H : Hp} {B : Addr → Prop} {a : Addr} {xs : List V} {ds : List D} (hs : ∀ H', Keep K B H H' → SqL K H' a xs) (r : Reps K H B ds xs) : ItD K (Ite K a) H B (enumFrom 0 ds) := by
  have hl := r.length
  refine ⟨fun i H' kp hi => ?_, fun i H' kp hi => ?_, fun i H' v H2 kp hy => ?_⟩
  · rw [enum_len, hl] at hi
    exact ⟨xs, xs[i], hs H' kp, List.getElem?_eq_getElem hi⟩
  · rw [enum_len, hl] at hi
    exact ⟨xs, hs H' kp, hi⟩
  · obtain ⟨p, x, hp, rfl, rfl, hx⟩ := hy
    have hx := hx xs (hs H' kp)
    obtain ⟨d, e, rd⟩ := (Reps.keep kp ds r).get' hx
    refine ⟨same_upd hp, .tup [.int (i : Nat), d], fun _ => by rw [enum_get, e]; simp, ?_⟩
    unfold Rep
    exact ⟨p, _, rfl, SqT.of upd_same, .cons (by unfold Rep; rfl) (.one (rd.mono (same_upd hp)))⟩
def enumS : D → Option (List D)
  | .lst ds => some (enumFrom 0 ds)
  | .scr ns => some (enumFrom 0 (ns.map .int))
  | _ => none
def dEnum (f : DE) : DS → Option (List D) := fun δ => (f δ).bind enumS
section
variable {X : Cx}
theorem pi_enumD {elts : List Expr} {x1} {tp p pos : Pos} {l : Expr} {f : DE} (hg : Gl X "enumerate") (hm : X.mg "enumerate" = none) (h : PD X l f) (hs : starEach [l] X.env = [(false, eval l X.env)] := by rfl) :
    PID X (.Tuple elts x1 tp) (.Call (.Name "enumerate" p) [l] [] pos) (dEnum f) := (pi_enum hg hm h hs).imp fun σ H R ⟨B, δ, ds, hB, S, q, k⟩ => by
  unfold dEnum at q
  cases e : f δ with
  | none => rw [e] at q; cases q
  | some d =>
    rw [e] at q
    have q' : enumS d = some ds := q
    refine ⟨B, δ, d, hB, S, e, fun v H1 s1 r1 => ?_⟩
    unfold enumS at q'
    split at q'
    · cases q'
      unfold Rep at r1
      obtain ⟨a, xs, rfl, n, h, r⟩ := r1
      refine ⟨a, rfl, ⟨xs, SqL.of h⟩, k _ H1 s1 fun C hC => ?_⟩
      have na : ¬ (B a ∨ C a) := fun z => z.elim n fun z => by rw [hC a z] at h; cases h
      exact itd_enum (xs := xs) (fun H' kp => SqL.of (kp.sl a xs na h)) (Reps.wide hC _ r)
    · cases q'
      unfold Rep at r1
      obtain ⟨a, rfl, h⟩ := r1
      exact ⟨a, rfl, ⟨_, h.sq⟩, k _ H1 s1 fun C hC => itd_enum (fun H' kp => (kp.sf a _ h).sq) (reps_ints _)⟩
    · cases q'
/-! [elt for a, b in iter if c] -/
def two (h : D → D → Option (Option D)) : D → Option (Option D)
  | .tup [a, b] => h a b
  | _ => none
def compG (fc : DS → Option Bool) (fe : DE) (δ : DS) : D → D → Option (Option D) := fun a b => (fc (δ ++ [some a, some b])).bind fun k => if k = true then (fe (δ ++ [some a, some b])).map some else some none
def dComp2 (fi : DS → Option (List D)) (fc : DS → Option Bool) (fe : DE) : DS → Option (List D) := fun δ => (fi δ).bind fun xs => if xs.length ≤ sizeLine then compL (two (compG fc fe δ)) xs else none
theorem two_some {h : D → D → Option (Option D)} {d : D} {o : Option D} (e : two h d = some o) : ∃ a b, d = .tup [a, b] ∧ h a b = some o := by
  unfold two at e
  split at e
  · exact ⟨_, _, rfl, e⟩
  · cases e
theorem set_snoc2 {v1 v2 w1 w2 : Option V} : ∀ {σ : St}, ((σ ++ [w1, w2]).set σ.length v1).set (σ.length + 1) v2 = σ ++ [v1, v2]
  | [] => rfl
  | x :: r => congrArg (x :: ·) (set_snoc2 (σ := r))
theorem RepS.snoc2 {K : PySem.W.Frag} {H : Hp} {B : Addr → Prop} {σ : St} {δ : DS} {d e : D} {v w : V} (S : RepS K H B σ δ) (r : Rep K H B d v) (r' : Rep K H B e w) : RepS K H B (σ ++ [some v, some w]) (δ ++ [some d, some e]) := by
  have := (S.snoc r).snoc r'
  rw [List.append_assoc, List.append_assoc] at this
  exact this
variable {N' : List Str} {sc : Scope} {iter elt : Expr} {ifs : List Expr} {n : Nat} {x y : Str} {px py tp pos : Pos} {x1 : Nat} {fi : DS → Option (List D)} {fc : DS → Option Bool} {fe : DE}
def gTwo (K : PySem.W.Frag) (n : Nat) : TG := gTup K 2 (gCons (gName n) (gCons (gName (n + 1)) gNil))
theorem comp_ofF2 {σ : St} {H : Hp} {Q : VK} (hσ : σ.length = n) (hq : tF X.K (dComp2 fi fc fe) σ H Q) : tComp (tI X.K fi) (gTwo X.K n) (tT X.K fc) (tD X.K fe) 2 σ H Q := by
  obtain ⟨B, δ, ds, hB, Sδ, q, k⟩ := hq
  unfold dComp2 at q
  cases e1 : fi δ with
  | none => rw [e1] at q; cases q
  | some xs =>
  rw [e1] at q
  have q1 : (if xs.length ≤ sizeLine then compL (two (compG fc fe δ)) xs else none) = some ds := q
  split at q1
  case isFalse => cases q1
  case isTrue hsz =>
  refine ⟨B, δ, xs, hB, Sδ, e1, fun J H1 s1 itw => fun Da hD => ?_⟩
  have hD0 : H Da = none := s1.free hD
  have it := itw (fun a => a = Da) fun a ha => by rw [ha]; exact hD
  have Sw : RepS X.K H1 (fun a => B a ∨ a = Da) σ δ := (Sδ.mono s1).wide fun a ha => by rw [ha]; exact hD
  refine ⟨fun i m σ' H' => m = xs.length - i ∧ i ≤ xs.length ∧ (∃ w w', σ' = σ ++ [w, w']) ∧ Same H1 H' ∧ ∃ ys dn rs, H' Da = some (.lst ys) ∧ Reps X.K H' (fun a => B a ∨ a = Da) dn ys ∧ ds = dn ++ rs ∧ dn.length ≤ i ∧
    compL (two (compG fc fe δ)) (xs.drop i) = some rs,
    ⟨xs.length, by simp, Nat.zero_le _, ⟨none, none, rfl⟩, same_upd hD, [], [], ds, upd_same, .nil, rfl, Nat.le_refl _, q1⟩, ?_⟩
  rintro i m σ' H' ⟨rfl, hi', ⟨w, w', rfl⟩, sm, ys, dn, rs, hys, rys, hds, hln, hrs⟩
  have kp : Keep X.K (fun a => B a ∨ a = Da) H1 H' := .same sm
  by_cases hlt : i < xs.length
  · refine .inr ⟨it.go i H' kp hlt, fun σ'' H'' => (i + 1 ≤ xs.length ∧ (∃ w w', σ'' = σ ++ [w, w']) ∧ Same H1 H'' ∧ ∃ ys dn rs, H'' Da = some (.lst ys) ∧ Reps X.K H'' (fun a => B a ∨ a = Da) dn ys ∧ ds = dn ++ rs ∧ dn.length ≤ i + 1 ∧
      compL (two (compG fc fe δ)) (xs.drop (i + 1)) = some rs), fun σ'' H'' h => ⟨xs.length - (i + 1), by omega, rfl, h⟩, fun xv H2 hy => ?_⟩
    obtain ⟨s2, d, hd, rd⟩ := it.yld i H' xv H2 kp hy
    have hdi := hd hlt
    have hx : xs.drop i = d :: xs.drop (i + 1) := by
      obtain ⟨hl, e⟩ := List.getElem?_eq_some_iff.mp hdi
      rw [List.drop_eq_getElem_cons hl, e]
    rw [hx] at hrs
    obtain ⟨o, rs', e2, e3, e4⟩ := compL_cons hrs
    obtain ⟨da, db, ed, e2b⟩ := two_some e2
    subst ed
    unfold Rep at rd
    obtain ⟨p, vs, rfl, hsq, rvs⟩ := rd
    unfold Reps at rvs
    obtain ⟨va, r1, rfl, ra, rvs⟩ := rvs
    unfold Reps at rvs
    obtain ⟨vb, r2, rfl, rb, rvs⟩ := rvs
    unfold Reps at rvs
    subst rvs
    refine ⟨p, [va, vb], rfl, hsq, rfl, va, [vb], rfl, vb, [], rfl, rfl, ?_⟩
    rw [← hσ, set_snoc2]
    have hB1 : InB (fun a => B a ∨ a = Da) H2 := fun a ha => ha.elim (fun z => (((hB.mono s1).mono sm).mono s2) a z) fun z => ⟨_, s2 _ _ (z ▸ hys)⟩
    have S2 : RepS X.K H2 (fun a => B a ∨ a = Da) (σ ++ [some va, some vb]) (δ ++ [some da, some db]) := ((Sw.mono sm).mono s2).snoc2 ra rb
    have hl2 : ys.length < sizeLine := by
      have := rys.length
      omega
    unfold compG at e2b
    cases ec : fc (δ ++ [some da, some db]) with
    | none => rw [ec] at e2b; cases e2b
    | some kk =>
      rw [ec] at e2b
      have e2' : (if kk = true then (fe (δ ++ [some da, some db])).map some else some none) = some o := e2b
      refine ⟨_, δ ++ [some da, some db], kk, hB1, S2, ec, fun H3 s3 => ?_⟩
      cases kk with
      | false =>
        rw [if_neg Bool.false_ne_true] at e2'
        rw [if_neg Bool.false_ne_true]
        cases e2'
        exact ⟨hlt, ⟨_, _, rfl⟩, (sm.trans s2).trans s3, ys, dn, rs', s3 _ _ (s2 _ _ hys), (rys.mono s2).mono s3, by rw [hds, e4]; rfl, Nat.le_succ_of_le hln, e3⟩
      | true =>
        rw [if_pos rfl] at e2'
        rw [if_pos rfl]
        cases ey : fe (δ ++ [some da, some db]) with
        | none => rw [ey] at e2'; cases e2'
        | some y =>
          rw [ey] at e2'
          cases e2'
          refine ⟨_, δ ++ [some da, some db], y, hB1.mono s3, S2.mono s3, ey, fun yv H5 s5 r5 => ⟨ys, s5 _ _ (s3 _ _ (s2 _ _ hys)), hl2, ?_⟩⟩
          have hu : H5 Da = some (.lst ys) := s5 _ _ (s3 _ _ (s2 _ _ hys))
          refine ⟨hlt, ⟨_, _, rfl⟩, fun b u hb => ?_, ys ++ [yv], dn ++ [y], rs', upd_same, ?_, by rw [hds, e4, List.append_assoc]; rfl, by rw [List.length_append]; simp; omega, e3⟩
          · rw [upd_ne (ne_of_none hb hD)]
            exact s5 _ _ (s3 _ _ (s2 _ _ (sm _ _ hb)))
          · exact Reps.keep (.upd (.inr rfl) (by rw [hu]; exact trivial)) _ (((rys.mono s2).mono s3 |>.mono s5).snoc r5)
  · have e : i = xs.length := by omega
    subst e
    refine .inl ⟨it.stop _ H' kp (Nat.le_refl _), ?_⟩
    rw [List.drop_length] at hrs
    cases hrs
    rw [List.append_nil] at hds
    subst hds
    exact k Da ys H' (s1.trans sm) hD0 hys (rys.anti fun a z => .inl z)
theorem pf_comp2 (hc : X.calm = true) (S : CompScope X.N X.env.scope.names N' 2 sc) (hn : n = X.N.length) (hi : PID X (.Tuple [.Name x px, .Name y py] x1 tp) iter fi)
    (hg : ∀ s H fp pins E, PG (cxComp X N' sc s H fp pins E) (.Tuple [.Name x px, .Name y py] x1 tp) (gTwo X.K n)) (ht : ∀ s H fp pins E, PIfs (cxComp X N' sc s H fp pins E) ifs (tT X.K fc)) (he : ∀ s H fp pins E, PE (cxComp X N' sc s H fp pins E) elt (tD X.K fe))
    (hs : ∀ x, foldedSetIterable iter X.env x = pure x := by intro _; rfl) : PF X (.ListComp elt [⟨.Tuple [.Name x px, .Name y py] x1 tp, iter, ifs, 0⟩] sc pos) (dComp2 fi fc fe) := by
  intro pins s σ H Q I hq
  exact pe_comp hc S hi ⟨hg, ht, he⟩ hs pins s σ H Q I (comp_ofF2 (by rw [hn, I.len]) hq)
theorem pg_two {X : Cx} {n : Nat} {x y : Str} {px py tp : Pos} {x1} (hc : X.calm = true) (h1 : PG X (.Name x px) (gName n)) (h2 : PG X (.Name y py) (gName (n + 1)))
    (hs : (assignEach [.Name x px, .Name y py] X.env).map (·.2) = assign (.Name x px) X.env :: (assignEach [.Name y py] X.env).map (·.2) := by rfl) (hs2 : (assignEach [.Name y py] X.env).map (·.2) = assign (.Name y py) X.env :: (assignEach [] X.env).map (·.2) := by rfl)
    (hn : (assignEach [.Name x px, .Name y py] X.env).length = 2 := by rfl) (hst : (assignEach [.Name x px, .Name y py] X.env).findIdx? (·.1) = none := by rfl) : PG X (.Tuple [.Name x px, .Name y py] x1 tp) (gTwo X.K n) :=
  pg_tup hc (pgs_cons h1 (pgs_cons h2 pgs_nil hs2) hs) hn hst
end
end L2

/-! ### E15: dicts by ints and texts, with items that cannot change -/
namespace L2
open PySem PySem.Spec PyProof.Rows
def keyD : D → Option Key
  | .int n => some (.inl n)
  | .str x => some (.inr x)
  | _ => none
def setK (ks : List Key) (ds : List D) (k : Key) (d : D) : List D := match ks, ds with
  | k' :: ks, e :: ds => (if k' = k then d else e) :: setK ks ds k d
  | _, _ => []
def hasK (ks : List Key) (k : Key) : Bool := ks.any fun k' => decide (k' = k)
def putKs (ks : List Key) (k : Key) : List Key := if hasK ks k = true then ks else ks ++ [k]
def putDs (ks : List Key) (ds : List D) (k : Key) (d : D) : List D := if hasK ks k = true then setK ks ds k d else ds ++ [d]
/-! rules -/
def inK : D → D → Option Bool := fun x y => match y with
  | .dct ks _ => (keyD x).map fun k => hasK ks k
  | _ => none
def dDIn (f g : DE) : DS → Option Bool := fun δ => (f δ).bind fun x => (g δ).bind fun y => inK x y
def dDNin (f g : DE) : DS → Option Bool := fun δ => (dDIn f g δ).map (!·)
section
variable {X : Cx} {a b o i value : Expr} {f g : DE} {pos pos' : Pos}
variable {H0 : Hp} {B0 : Addr → Prop} {fr : Bool} {RX : XR} {x : Str} {px : Pos} {ke e : Expr}
def dput (i : Nat) (fk fv : DE) : SS → Option Out := fun δ => (fv (allV δ)).bind fun d => if d.imm = true then (fk (allV δ)).bind fun dk => (match keyD dk, δ[i]? with
  | some k, some (some (.ow (.dct ks ds))) => if imms ds = true ∧ ks.length < sizeLine then some (.nx ((dropBs i δ).set i (some (.ow (.dct (putKs ks k) (putDs ks ds k d)))))) else none
  | _, _ => none) else none
end
end L2

/-! ### E16: x[::-1], lists put together, list.index, max, min -/
namespace HT
open PySem PySem.Spec PyProof.Rows
section
variable {prog : Program} {w : World} {A : Around} {E : Value → Shared → Prop} {s : Shared}
theorem fm_congr {α β : Type} {f g : α → Option β} : ∀ {l : List α}, (∀ m ∈ l, f m = g m) → l.filterMap f = l.filterMap g
  | [], _ => rfl
  | x :: r, h => by
    rw [List.filterMap_cons, List.filterMap_cons, h x List.mem_cons_self, fm_congr fun m hm => h m (List.mem_cons_of_mem _ hm)]
end
end HT
namespace L2
open PySem PySem.Spec PyProof.Rows
section
variable {X : Cx} {e st : Expr} {te : TE} {tk : TO} {pos p2 : Pos}
def tRev (r : V → Hp → VK → Prop) (te : TE) (tk : TO) : TE := fun σ H Q => te σ H fun x H1 => tk σ H1 fun k H2 => k = some (-1) ∧ r x H2 Q
def rRevL (K : PySem.W.Frag) : V → Hp → VK → Prop := fun x H Q => ∃ a xs, x = .ref a ∧ SqL K H a xs ∧ ∀ p, H p = none → Q (.ref p) (upd H p (.lst xs.reverse))
theorem pe_revL (he : PE X e te) (hk : PO X (some st) tk) (hsub : ∀ v u, subscripted (.Slice none none (some st) p2) false v u = operate [v, u] (getItem v u) := by intro _ _; rfl) : PE X (.Subscript e (.Slice none none (some st) p2) pos) (tRev (rRevL X.K) te tk) := by
  intro pins s σ H Q I h
  refine Subscript_ (thn (he pins s σ H _ I h) fun v s1 ⟨x, H1, I1, r1, q1⟩ => ?_)
  refine wpAny_Slice ?_
  rw [evalPart_none]
  refine wpAny_pure (wpAny_pure (thn (hk pins s1 σ H1 _ I1 q1) fun vk s2 ⟨k, H2, I2, pk, ek, q2⟩ => ?_))
  subst ek
  obtain ⟨a, xs, rfl, hq, q⟩ := q2
  cases r1
  have I4 : Inv X pins σ H2 { s2 with heap := s2.heap.push { cls := .type "slice", data := .fields #[.none, .none, vk] } } := I2.kept (t' := s2.toks) fun b ob q => Heap.get?_push_of_some _ q
  obtain ⟨its, r, pl, hz⟩ := I4.list hq
  have hlen := r.length
  refine tail_any (ops := [.ref a, .ref s2.heap.objs.size]) pl.isList.typeIs list_getitem_lookup ?_ (hsub _ _)
  refine wpAny_getItem_list_slice pl.isList (Heap.IsSliceOf.new ..) .none .none pk (by decide) ?_ (by simp only [List.size_toArray] <;> omega)
  rw [PySem.W.krv_pick]
  exact ⟨.ref _, _, I4.lnew (t' := s2.toks) (by simpa using r.reverse) (by rw [List.length_reverse]; exact hz), rfl, q _ I4.fresh⟩
theorem Reps.reverse {K : PySem.W.Frag} {H : Hp} {B : Addr → Prop} : ∀ {ds : List D} {xs : List V}, Reps K H B ds xs → Reps K H B ds.reverse xs.reverse
  | [], _, h => by unfold Reps at h; subst h; exact .nil
  | d :: ds, _, h => by
    unfold Reps at h
    obtain ⟨x, r, rfl, h1, h2⟩ := h
    rw [List.reverse_cons, List.reverse_cons]
    exact (Reps.reverse h2).snoc h1
def revT : D → D → Option D
  | .tup ds, .int k => if k = -1 then some (.tup ds.reverse) else none
  | _, _ => none
def revLs : D → D → Option (List D)
  | .lst ds, .int k => if k = -1 then some ds.reverse else none
  | .scr ns, .int k => if k = -1 then some (ns.map D.int).reverse else none
  | _, _ => none
def dRevL (f g : DE) : DS → Option (List D) := fun δ => (f δ).bind fun x => (g δ).bind fun y => revLs x y
variable {f g : DE}
theorem pf_revL (he : PD X e f) (hk : PD X st g) (hsub : ∀ v u, subscripted (.Slice none none (some st) p2) false v u = operate [v, u] (getItem v u) := by intro _ _; rfl) : PF X (.Subscript e (.Slice none none (some st) p2) pos) (dRevL f g) :=
  (pe_revL he (po_some hk) hsub).imp fun σ H Q ⟨B, δ, ds, hB, S, q, k⟩ => by
    unfold dRevL at q
    cases e1 : f δ with
    | none => rw [e1] at q; cases q
    | some x =>
    rw [e1, Option.bind_some] at q
    cases e2 : g δ with
    | none => rw [e2] at q; cases q
    | some y =>
    rw [e2, Option.bind_some] at q
    unfold revLs at q
    split at q
    case h_3 => cases q
    case h_1 es j =>
      split at q
      case isFalse => cases q
      case isTrue hj =>
      cases q
      refine ⟨B, δ, _, hB, S, e1, fun v H1 s1 r1 => ⟨B, δ, _, hB.mono s1, S.mono s1, e2, fun v2 H2 s2 r2 => ?_⟩⟩
      unfold Rep at r2
      subst r2
      unfold Rep at r1
      obtain ⟨a, xs, rfl, n, hq, rs⟩ := r1
      refine ⟨j, rfl, by rw [hj], a, xs, rfl, SqL.of (s2 _ _ hq), fun p hp => ?_⟩
      exact k p _ _ ((s1.trans s2).trans (same_upd hp)) ((s1.trans s2).free hp) upd_same ((rs.reverse.mono s2).mono (same_upd hp))
    case h_2 ns j =>
      split at q
      case isFalse => cases q
      case isTrue hj =>
      cases q
      refine ⟨B, δ, _, hB, S, e1, fun v H1 s1 r1 => ⟨B, δ, _, hB.mono s1, S.mono s1, e2, fun v2 H2 s2 r2 => ?_⟩⟩
      unfold Rep at r2
      subst r2
      unfold Rep at r1
      obtain ⟨a, rfl, hq⟩ := r1
      refine ⟨j, rfl, by rw [hj], a, _, rfl, (s2.sf hq).sq, fun p hp => ?_⟩
      exact k p _ _ ((s1.trans s2).trans (same_upd hp)) ((s1.trans s2).free hp) upd_same (reps_ints ns).reverse
/-! lists put together -/
variable {a b : Expr}
def catLs : D → D → Option (List D)
  | .lst ds, .lst es => if ds.length + es.length ≤ sizeLine then some (ds ++ es) else none
  | _, _ => none
def dCat (f g : DE) : DS → Option (List D) := fun δ => (f δ).bind fun x => (g δ).bind fun y => catLs x y
theorem pf_cat (ha : PD X a f) (hb : PD X b g) : PF X (.BinOp a .Add b pos) (dCat f g) := (pe_op op_cat ha hb).imp fun σ H Q ⟨B, δ, ds, hB, S, q, k⟩ => by
  unfold dCat at q
  cases e1 : f δ with
  | none => rw [e1] at q; cases q
  | some x =>
  rw [e1, Option.bind_some] at q
  cases e2 : g δ with
  | none => rw [e2] at q; cases q
  | some y =>
  rw [e2, Option.bind_some] at q
  unfold catLs at q
  split at q
  case h_2 => cases q
  case h_1 xs ys =>
  split at q
  case isFalse => cases q
  case isTrue hl =>
  cases q
  refine ⟨B, δ, _, hB, S, e1, fun v H1 s1 r1 => ⟨B, δ, _, hB.mono s1, S.mono s1, e2, fun v2 H2 s2 r2 => ?_⟩⟩
  unfold Rep at r1 r2
  obtain ⟨p1, vs, rfl, n1, h1, rs1⟩ := r1
  obtain ⟨p2, ws, rfl, n2, h2, rs2⟩ := r2
  refine ⟨p1, p2, vs, ws, rfl, rfl, s2 _ _ h1, h2, by rw [← rs1.length, ← rs2.length]; exact hl, fun p hp => ?_⟩
  exact k p _ _ ((s1.trans s2).trans (same_upd hp)) ((s1.trans s2).free hp) upd_same (((rs1.mono s2).append rs2).mono (same_upd hp))
/-! max, min of two ints -/
def maxF : List D → Option D
  | [.int i, .int j] => some (.int (if j > i then j else i))
  | _ => none
theorem oa_max {K : PySem.W.Frag} : OpA K (fun xs H Q => ∃ i j, xs = [.int i, .int j] ∧ Q (.int (if j > i then j else i)) H) maxF := by
  intro H B ds d vs Q hB hr q k
  unfold maxF at q
  split at q
  case h_2 => cases q
  case h_1 i j =>
  cases q
  unfold Reps at hr
  obtain ⟨x, r, rfl, hx, hr⟩ := hr
  obtain ⟨y, rfl, hy⟩ := reps1 hr
  unfold Rep at hx hy
  subst hx hy
  exact ⟨i, j, rfl, k _ H (.refl H) (by unfold Rep; rfl)⟩
variable {p : Pos}
theorem pd_max2 (hc : X.calm = true) (hg : Gl X "max") (hm : X.mg "max" = none) (ha : PD X a f) (hb : PD X b g) (he : starEach [a, b] X.env = (false, eval a X.env) :: starEach [b] X.env := by rfl) (he2 : starEach [b] X.env = [(false, eval b X.env)] := by rfl) (hpl : (backTo pos (starEach [b] X.env)).any (·.1) = false := by rfl) : PD X (.Call (.Name "max" p) [a, b] [] pos) (dCall maxF [f, g]) :=
  pd_callB (call_max2 hc) oa_max hg hm PyProof.Rows.Boot.«max» (pad_cons ha (pad_cons hb pad_nil he2) he) (by decide) (by decide) he hpl
end
end L2

/-! ### E17: list.index; extend, clear of an owned list -/
namespace L2
open PySem PySem.Spec PyProof.Rows
section
variable {X : Cx} {o e : Expr} {apos cpos : Pos}
end
end L2
namespace L2
open PySem PySem.Spec PyProof.Rows
section
variable {X : Cx} {H0 : Hp} {B0 : Addr → Prop} {fr : Bool} {RX : XR} {e : Expr} {pos : Pos} {f : DE}
/-- a call for itself -/
def exprN (f : DE) : SS → Option Out := fun δ => (f (allV δ)).map fun _ => .nx δ
end
end L2

/-! ### E18: range(lo, hi, step); while; x is None -/
namespace L2
open PySem PySem.Spec PyProof.Rows
def cntR (lo hi c : Int) : Nat := if lo < hi then ((hi - lo - 1) / c + 1).toNat else 0
section
variable {X : Cx} {tg : Expr}
def rngC (lo c : Int) (n : Nat) : List D := (List.range n).map fun i => .int (lo + (i : Nat) * c)
def rng3 : Option D → Option D → Option D → Option (List D)
  | some (.int i), some (.int j), some (.int c) => if -(2 ^ 61) ≤ i ∧ i < 2 ^ 61 ∧ -(2 ^ 61) ≤ j ∧ j < 2 ^ 61 ∧ 0 < c ∧ c < 2 ^ 30 then some (rngC i c (cntR i j c)) else none
  | _, _, _ => none
def dRng3 (f g h : DE) : DS → Option (List D) := fun δ => rng3 (f δ) (g δ) (h δ)
end
/-! while -/
def whileD (c : DS → Option Bool) (b : SS → Option Out) : Nat → SS → Option Out
  | 0, _ => none
  | n + 1, δ => (c (allV δ)).bind fun k => if k = true then (b δ).bind fun o => (match o with
    | .nx δ' => whileD c b n δ'
    | .ct δ' => whileD c b n δ'
    | .bk δ' => some (.nx δ')
    | .rt d => some (.rt d)
    | .ex c δ' => some (.ex c δ')) else some (.nx δ)
section
variable {X : Cx} {H0 : Hp} {B0 : Addr → Prop} {fr : Bool} {RX : XR} {pos : Pos}
theorem s_while {c : Expr} {body : List Stmt} {fc : DS → Option Bool} {g : SS → Option Out} (n : Nat) (hp : PassesOwn (model X.prog X.w) X.A X.env X.xe) (hc : PTD X c fc) (hb : PSs X body (tS X.K H0 B0 fr RX g)) : PS X (.While c body [] pos) (tS X.K H0 B0 fr RX (whileD fc g n)) :=
  PS.imp (ps_while hp hc hb) fun D σ H ⟨δ, R, o, rs, q, k⟩ => by
    refine ⟨fun m σ' H' => ∃ δ' R', RS X.K H0 B0 H' σ' δ' R' ∧ Stp R H R' H' ∧ whileD fc g m δ' = some o, ⟨n, δ, R, rs, .refl R H, q⟩, ?_⟩
    rintro m σ' H' ⟨δ', R', rs', s', q'⟩
    cases m with
    | zero => cases q'
    | succ m =>
      unfold whileD at q'
      cases ec : fc (allV δ') with
      | none => rw [ec] at q'; cases q'
      | some kk =>
        rw [ec, Option.bind_some] at q'
        refine ⟨noB, allV δ', kk, .no, rs'.all, ec, fun H1 s1 => ?_⟩
        have rs1 := rs'.mono s1
        have st1 : Stp R H R' H1 := s'.trans (.same s1)
        cases kk with
        | false =>
          rw [if_neg Bool.false_ne_true] at q'
          cases q'
          exact k σ' H1 R' rs1 st1
        | true =>
          rw [if_pos rfl] at q'
          cases eb : g δ' with
          | none => rw [eb] at q'; cases q'
          | some ob =>
            rw [eb, Option.bind_some] at q'
            refine ⟨fun σ2 H2 => ∃ δ2 R2, RS X.K H0 B0 H2 σ2 δ2 R2 ∧ Stp R H R2 H2 ∧ whileD fc g m δ2 = some o, fun σ2 H2 z => ⟨m, Nat.lt_succ_self m, z⟩, δ', R', ob, rs1, eb, ?_⟩
            cases ob with
            | nx δ2 => exact fun σ3 H3 R3 rs3 s3 => ⟨δ2, R3, rs3, st1.trans s3, q'⟩
            | ct δ2 => exact fun σ3 H3 R3 rs3 s3 => ⟨δ2, R3, rs3, st1.trans s3, q'⟩
            | bk δ2 =>
              cases q'
              exact fun σ3 H3 R3 rs3 s3 => k σ3 H3 R3 rs3 (st1.trans s3)
            | rt d =>
              cases q'
              exact k.back st1
            | ex c δ2 =>
              cases q'
              exact k.back st1
/-! x is None -/
def isN : D → Bool
  | .non => true
  | _ => false
def dIsN (f : DE) : DS → Option Bool := fun δ => (f δ).map isN
def dNotN (f : DE) : DS → Option Bool := fun δ => (f δ).map fun d => !isN d
variable {a : Expr} {f : DE}
end
end L2

/-! ### E19: x is True; xs.clear(), xs.extend(..); sorted of ints -/
namespace L2
open PySem PySem.Spec PyProof.Rows
section
variable {X : Cx} {a b : Expr} {f g : DE} {pos : Pos}
def isB : D → D → Option D
  | .bl c, .bl d => some (.bl (c == d))
  | _, _ => none
def notB : D → D → Option D
  | .bl c, .bl d => some (.bl (c != d))
  | _, _ => none
variable {H0 : Hp} {B0 : Addr → Prop} {fr : Bool} {RX : XR} {x : Str} {px ap cp : Pos} {e : Expr}
def clr0 (i : Nat) : SS → Option Out := fun δ => match δ[i]? with
  | some (some (.ow (.lst _))) => some (.nx ((dropBs i δ).set i (some (.ow (.lst [])))))
  | _ => none
def ext0N (i : Nat) (f : DE) : SS → Option Out := fun δ => (f (allV δ)).bind fun d => (match d, δ[i]? with
  | .lst es, some (some (.ow (.lst ds))) => if ds.length + es.length ≤ sizeLine then some (.nx ((dropBs i δ).set i (some (.ow (.lst (ds ++ es)))))) else none
  | _, _ => none)
end
end L2

/-! ### E20: sorted of ints -/
namespace L2
open PySem PySem.Spec PyProof.Rows
def insS (x : Int) : List Int → List Int
  | [] => [x]
  | y :: r => if x ≤ y then x :: y :: r else y :: insS x r
def srtI : List Int → List Int
  | [] => []
  | x :: r => insS x (srtI r)
section
variable {prog : Program} {w : World} {A : Around} {E : Value → Shared → Prop} {s : Shared}
end
section
variable {X : Cx}
variable {e : Expr} {f : DE} {p pos : Pos}
end
end L2

/-! ### E21: list(reversed(xs)), xs a list -/
namespace L2
open PySem PySem.Spec PyProof.Rows
section
variable {prog : Program} {w : World} {A : Around} {s : Shared} {R : Result → Shared → Prop}
variable {I : Addr} {fp wr : List Addr} {G : Array GenState → Array GenState → Prop} {n : Nat} {P : Nat → Value → Prop} {St : Nat → Shared → Prop}
end
section
variable {prog : Program} {w : World} {A : Around} {E : Value → Shared → Prop} {s : Shared}
end
section
variable {X : Cx}
def revF : List D → Option (List D)
  | [.lst ds] => some ds.reverse
  | _ => none
end
end L2

/-! ### E22: an exception passes a frame: what is left as it was -/
namespace L2
open PySem PySem.Spec PyProof.Rows
/-- the exception at e of the class cls, its newest traceback entry at T -/
def Thr (h : Heap) (e T : Addr) (cls : Value) : Prop := ∃ oe vs oT ts, h.get? e = some oe ∧ oe.cls = cls ∧ oe.data = .fields vs ∧ vs[1]? = some (.ref T) ∧ T ≠ e ∧ h.get? T = some oT ∧ oT.data = .fields ts ∧ ts[3]? = some .none ∧ oe.dict = none
structure Gone (S ch : List Addr) (e : Addr) (cls : Value) (h h' : Heap) : Prop where
  keep : ∀ b o, b ∉ S → b ∉ ch → h.get? b = some o → h'.get? b = some o
  slot : ∀ b o, b ∈ S → b ∉ ch → h.get? b = some o → ∃ sl, h'.get? b = some { o with slots := sl }
  there : ∀ b o, h.get? b = some o → ∃ o', h'.get? b = some o'
  thr : ∃ T, h.objs.size ≤ T ∧ Thr h' e T cls
section
variable {M : Model} {A : Around} {E : Value → Shared → Prop} {s : Shared}
end
end L2

/-! ### E23: an exception leaves a def, and passes its callers -/
namespace L2
open PySem PySem.Spec PyProof.Rows
theorem ObjOk.some {P : Program} {w : World} {H : Hp} {h : Heap} {a : Addr} {o : HO} (x : ObjOk P w H h a o) : ∃ ob, h.get? a = Option.some ob := by
  cases q : h.get? a with
  | some ob => exact ⟨ob, rfl⟩
  | none =>
    have y : ObjOk P w H h a o := x
    induction o with
    | lst xs => obtain ⟨_, _, _, _, e⟩ := x; rw [q] at e; cases e
    | tup xs => obtain ⟨_, _, _, _, e, _⟩ := x; rw [q] at e; cases e
    | dK kvs => obtain ⟨_, _, _, _, _, _, _, e, _⟩ := x; rw [q] at e; cases e
    | dT kvs => obtain ⟨_, _, _, _, _, _, _, e, _⟩ := x; rw [q] at e; cases e
    | set S n => obtain ⟨_, _, _, _, e, _⟩ := x; rw [q] at e; cases e
    | ins C dx fs => obtain ⟨_, _, _, e, _⟩ := x; rw [q] at e; cases e
    | own y => obtain ⟨_, e⟩ := x; rw [q] at e; cases e
    | xd fs => obtain ⟨_, ⟨_, _, _, e, _⟩, _⟩ := x; rw [q] at e; cases e
    | met f y => have e := x; unfold ObjOk at e; rw [q] at e; cases e
    | rng lo hi => obtain ⟨_, _, _, e⟩ := x; rw [q] at e; cases e
    | frz ob u ih => have e := x.1; rw [q] at e; cases e
    | tbl ps => have e := x; unfold ObjOk at e; rw [q] at e; cases e
    | ext φ => obtain ⟨_, ⟨_, e⟩, _⟩ := x; rw [q] at e; cases e
section
variable {X : Cx} {pins : List (Addr × Obj)} {σ : St} {H : Hp} {s : Shared}
/-- a record of ours that is not tracked and was not there at the entry -/
def FpX (X : Cx) (pins : List (Addr × Obj)) (H : Hp) (b : Addr) : Prop :=
  H b = none ∧ b ≠ X.env.locals ∧ (b ∈ X.ex ∨ X.s₀.heap.get? b = none) ∧ (∀ x c, X.env.cells.lookup x = some c → c ≠ b) ∧ ∀ p ∈ X.pn ++ pins, p.1 ≠ b
theorem Inv.gone {ch : List Addr} {e : Addr} {cls : Value} {h' : Heap} (I : Inv X pins σ H s) (G : Gone (frs X.stack) ch e cls s.heap h') (hch : ∀ b ∈ ch, FpX X pins H b) : Inv X pins σ H { s with heap := h' } := by
  have nS : ∀ b u, H b = some u → b ∉ frs X.stack := fun b u q z => by rw [I.stkFree b z] at q; cases q
  have nC : ∀ b u, H b = some u → b ∉ ch := fun b u q z => by rw [(hch b z).1] at q; cases q
  have hok : HOk X.prog X.w H h' := fun b u q => (I.hok b u q).stay (fun c v hc e => by
    rcases hc with rfl | z
    · exact G.keep _ v (nS _ u q) (nC _ u q) e
    · exact G.keep c v (nS c _ z) (nC c _ z) e) (fun _ q => q) fun _ _ q => q
  have any : ∀ b o, b ∉ ch → s.heap.get? b = some o → ∃ sl, h'.get? b = some { o with slots := sl } := fun b o hc q => by
    by_cases hb : b ∈ frs X.stack
    · exact G.slot b o hb hc q
    · exact ⟨o.slots, G.keep b o hb hc q⟩
  have new : ∀ b o, X.s₀.heap.get? b = some o → b ∉ X.ex → b ∉ ch := fun b o q hx z => by
    rcases (hch b z).2.2.1 with y | y
    · exact hx y
    · rw [y] at q; cases q
  have kp : ∀ b o, b ≠ X.env.locals → b ∉ X.fs → b ∉ ch → s.heap.get? b = some o → h'.get? b = some o := fun b o hL hb hc q =>
    G.keep b o (fun z => (List.mem_cons.mp (I.stkSub b z)).elim hL hb) hc q
  have old : ∀ b o, X.s₀.heap.get? b = some o → b ≠ X.env.locals := fun b o q => Nat.ne_of_lt (Nat.lt_of_lt_of_le (Heap.lt_size q) I.ok.above)
  have cellK : ∀ x c, X.env.cells.lookup x = some c → ∀ v, s.heap.IsCell c v → h'.IsCell c v := fun x c q v ⟨o, ho, hd⟩ => by
    obtain ⟨sl, y⟩ := any c o (fun z => (hch c z).2.2.2.1 x c q rfl) ho
    exact ⟨_, y, hd⟩
  refine ⟨I.ok, I.os, I.bare, ⟨?_, ?_, fun b o q n hx => I.base.free b o q n hx, ?_, I.base.tups, I.base.frzs, I.base.tbls⟩, ?_, ?_, I.free, I.freeC, ?_, hok, I.len⟩
  · exact fun b o q n hb hx => kp b o (old b o q) hb (new b o q hx) (I.base.keep b o q n hb hx)
  · intro b o q n hb hx
    obtain ⟨sl, q1⟩ := I.base.slot b o q n hb hx
    obtain ⟨sl', q2⟩ := any b _ (new b o q hx) q1
    exact ⟨sl', q2⟩
  · intro b o q hx
    obtain ⟨o', q1⟩ := I.base.there b o q hx
    exact G.there b o' q1
  · obtain ⟨m, ⟨o, es, ep, ho, r⟩, hl⟩ := I.loc
    obtain ⟨sl, hL⟩ := any _ o (fun z => (hch _ z).2.1 rfl) ho
    refine ⟨m, ⟨_, es, ep, hL, r⟩, fun i x v e1 e2 e3 => ?_⟩
    obtain ⟨u, r, l⟩ := hl i x v e1 e2 e3
    exact ⟨u, r, l.imp id fun ⟨k, c, q, z⟩ => ⟨k, c, q, cellK x c q _ z⟩⟩
  · intro x c q
    obtain ⟨v, z⟩ := I.cell x c q
    exact ⟨v, cellK x c q v z⟩
  · intro p hp
    obtain ⟨q, n, ne, nf, d⟩ := I.pin p hp
    exact ⟨kp p.1 p.2 ne nf (fun z => (hch p.1 z).2.2.2.2 p hp rfl) q, n, ne, nf, d⟩
end
/-- an exception behind a call: its object, its newest traceback entry (both new, neither tracked), its class -/
def CXE (P : Program) (w : World) : CXT := fun outer H s E e s' => ∃ (ea T : Addr) (cls : Value) (H' : Hp), e = .ref ea ∧ s'.os = s.os ∧ AllBare s'.gens ∧ Un (frs outer) [] H H' s.heap s'.heap ∧ HOk P w H' s'.heap ∧
  s.heap.get? ea = none ∧ s.heap.get? T = none ∧ H' ea = none ∧ H' T = none ∧ Thr s'.heap ea T cls ∧ E cls none H'
section
variable {P : Program} {w : World} {K : PySem.W.Frag} {mg : Str → Option Value} {base : Heap} {N : List Str} {qual : Str} {scope : Scope} {f : Addr} {cd : Value} {A : Around} {outer : List Env} {s : Shared} {H : Hp} {E : XK}
end
end L2

/-! ### E24: raise C(e) -/
namespace L2
open PySem PySem.Spec PyProof.Rows
section
variable {X : Cx} {x : Str} {C : Addr} {B Bn newId nid initId inN : String} {bm bmN : List Value} {np cpos pos : Pos} {e₀ : Expr} {te : TE}
variable {H0 : Hp} {B0 : Addr → Prop} {fr : Bool} {RX : XR}
def raiseO (c : Nat) (f : DE) : SS → Option Out := fun δ => (f (allV δ)).map fun _ => .ex c δ
end
end L2

/-! ### E25: defs that may raise -/
namespace L2
open PySem PySem.Spec PyProof.Rows
inductive XO where
  | val (d : D) | exc (c : Nat)
section
variable {P : Program} {w : World} {K : PySem.W.Frag} {mg : Str → Option Value} {base : Heap}
structure DefX (P : Program) (w : World) (K : PySem.W.Frag) (mg : Str → Option Value) (base : Heap) (k : Nat) (x : Str) (sp : Sp) : Prop where
  ok : ∃ (f : Addr) (fd : FuncData) (ps : List Str), mg x = some (.ref f) ∧ PySem.W.keepIn K (.ref f) = true ∧ Binds K fd ps [] ∧ FnOk P w K mg base (CXE P w) k f fd ps sp
end
section
variable {X : Cx} {k : Nat} {f : Addr} {fd : FuncData} {ps : List Str} {sp : Sp} {cl : Nat → Value} {RX : XR}
end
end L2

/-! ### E26: a call that may raise, as a whole statement -/
namespace L2
open PySem PySem.Spec PyProof.Rows
section
variable {X : Cx} {k : Nat} {sp : Sp} {cl : Nat → Value} {RX : XR} {x : Str} {p pos pos2 : Pos} {e : Expr} {es : List Expr} {t : TA}
def dCallX (m : List D → Option XO) (fl : List DE) : DS → Option XO := fun δ => (dArgs fl δ).bind m
variable {H0 : Hp} {B0 : Addr → Prop} {fr : Bool} {F : DS → Option XO}
def retX (F : DS → Option XO) : SS → Option Out := fun δ => (F (allV δ)).map fun o => match o with
  | .val d => .rt d
  | .exc c => .ex c δ
def exprX (F : DS → Option XO) : SS → Option Out := fun δ => (F (allV δ)).map fun o => match o with
  | .val _ => .nx δ
  | .exc c => .ex c δ
def asgX (i : Nat) (F : DS → Option XO) : SS → Option Out := fun δ => (F (allV δ)).map fun o => match o with
  | .val d => .nx (δ.set i (some (.ow d)))
  | .exc c => .ex c δ
end
end L2

/-! ### E27: except C: suite -/
namespace L2
open PySem PySem.Spec PyProof.Rows
/-- within an except suite; no exception leaves it -/
abbrev Cx.suite (X : Cx) (e : Value) : Cx := { X with A := X.A.mark (some e), calm := false, xe := fun _ _ => False }
section
variable {X : Cx} {pins : List (Addr × Obj)} {σ : St} {H : Hp} {s : Shared} {e : Value}
theorem Cx.Ok.suite (ok : X.Ok) (e : Value) : (X.suite e).Ok :=
  ⟨ok.mod, ok.kind, ok.glob, ok.blt, ok.above, ok.inj, ok.has, ok.cab, (fun z => Bool.noConfusion z), ok.frames, ok.stk, ok.exf, ok.bs, ok.bsz, ok.noex, ok.exfs, ok.funs, ok.frf⟩
theorem Inv.suite (I : Inv X pins σ H s) (e : Value) : Inv (X.suite e) pins σ H s := ⟨I.ok.suite e, I.os, I.bare, I.base, I.loc, I.cell, I.free, I.freeC, I.pin, I.hok, I.len⟩
end
section
variable {X : Cx} {cls : Value} {x : Str} {C : Addr} {np hpos : Pos} {b₀ : Stmt} {suite : List Stmt} {rest : List ExceptHandler} {t : TS}
def PH (X : Cx) (hs : List ExceptHandler) (cls : Value) (t : TS) : Prop := ∀ (pins : List (Addr × Obj)) (s : Shared) (σ : St) (H : Hp) (D : Ends) (ea T : Addr), Inv X pins σ H s → FpX X pins H ea → Thr s.heap ea T cls → t D σ H → wpAny (model X.prog X.w) X.A (handleBy (.ref ea) X.env hs) (SP X pins D) X.xe s
end
end L2

/-! ### E28: try: .. except ..: -/
namespace L2
open PySem PySem.Spec PyProof.Rows
section
variable {X : Cx} {pins pn : List (Addr × Obj)} {xe : Value → Shared → Prop} {σ : St} {H : Hp} {s : Shared}
end
def tryO (gb : SS → Option Out) (gh : Nat → SS → Option Out) : SS → Option Out := fun δ => (gb δ).bind fun o => match o with
  | .nx δ' => some (.nx δ')
  | .ct δ' => some (.ct δ')
  | .bk δ' => some (.bk δ')
  | .rt d => some (.rt d)
  | .ex c δ' => gh c δ'
section
variable {X : Cx} {H0 : Hp} {B0 : Addr → Prop} {fr : Bool} {RX : XR} {cl : Nat → Value} {body : List Stmt} {h₀ : ExceptHandler} {hs : List ExceptHandler} {pos : Pos}
end
end L2

/-! ### E29: x = y, where y owns its list and is not read again ahead of its next assignment -/
namespace L2
open PySem PySem.Spec PyProof.Rows
section
variable {K : PySem.W.Frag} {H0 H : Hp} {B0 : Addr → Prop} {σ : St} {δ : SS} {R : Nat → List Addr}
def movS (i j : Nat) (d : D) (δ : SS) : SS := ((dropBs j δ).set j none).set i (some (.ow d))
end
section
variable {X : Cx} {H0 : Hp} {B0 : Addr → Prop} {fr : Bool} {RX : XR} {pos : Pos} {st : Stmt}
def movO (i j : Nat) : SS → Option Out := fun δ => match δ[j]? with
  | some (some (.ow d)) => some (.nx (movS i j d δ))
  | _ => none
end
end L2

/-! ### E30: for x in reversed(xs), xs a list; a def that is never come to -/
namespace L2
open PySem PySem.Spec PyProof.Rows
theorem ss_never {X : Cx} {H0 : Hp} {B0 : Addr → Prop} {fr : Bool} {RX : XR} {body : List Stmt} : PSs X body (tS X.K H0 B0 fr RX fun _ => none) := fun _ _ _ _ _ _ ⟨_, _, _, _, e, _⟩ => nomatch e
section
variable {X : Cx}
end
def revS : D → Option (List D)
  | .lst ds => some ds.reverse
  | _ => none
def dRevS (f : DE) : DS → Option (List D) := fun δ => (f δ).bind revS
section
variable {X : Cx}
end
end L2

/-! ### E31: loops that only look: for x in xs: if ..: return .. (xs may be owned, and stays so) -/
namespace L2
open PySem PySem.Spec PyProof.Rows
def chkIf (fc : DS → Option Bool) (fe : DE) : DS → Option (Option D) := fun δ => (fc δ).bind fun b => if b = true then (fe δ).bind fun d => if d.imm = true then some (some d) else none else some none
def chkSeq (f g : DS → Option (Option D)) : DS → Option (Option D) := fun δ => (f δ).bind fun o => match o with
  | none => g δ
  | some d => some (some d)
section
variable {X : Cx} {c e : Expr} {fc : DS → Option Bool} {fe : DE} {f g : DS → Option (Option D)} {st : Stmt} {sts : List Stmt} {p1 pos : Pos}
end
def chkD (i : Nat) (fb : DS → Option (Option D)) : List D → SS → Option Out
  | [], δ => some (.nx δ)
  | x :: r, δ => (fb (allV (δ.set i (some (.sh x))))).bind fun o => match o with
    | none => chkD i fb r (δ.set i (some (.sh x)))
    | some d => if d.imm = true then some (.rt d) else none
def forC (i : Nat) (fi : DS → Option (List D)) (fb : DS → Option (Option D)) : SS → Option Out := fun δ => (fi (allV δ)).bind fun ds => if imms ds = true then chkD i fb ds δ else none
section
variable {X : Cx} {H0 : Hp} {B0 : Addr → Prop} {fr : Bool} {RX : XR} {pos : Pos}
end
end L2

/-! ### E32: classes of the program under ValueError -/
namespace L2
open PySem PySem.Spec PyProof.Rows
section
variable {X : Cx} {x : Str} {C : Addr} {np cpos pos : Pos} {e₀ : Expr} {H0 : Hp} {B0 : Addr → Prop} {fr : Bool} {RX : XR}
end
end L2

/-! ### E33: a call that may raise, where it does not -/
namespace L2
open PySem PySem.Spec PyProof.Rows
def valO : Option XO → Option D
  | some (.val d) => some d
  | _ => none
def dCallV (m : List D → Option XO) (fl : List DE) : DE := fun δ => valO (dCallX m fl δ)
section
variable {X : Cx} {k : Nat} {cl : Nat → Value} {x : Str} {p pos : Pos} {e : Expr} {es : List Expr}
end
end L2

/-! ### E34: except C as e; isinstance(e, C) -/
namespace L2
open PySem PySem.Spec PyProof.Rows
section
variable {X : Cx} {pins : List (Addr × Obj)} {σ : St} {H : Hp} {s : Shared}
end
section
variable {X : Cx} {x n : Str} {C Ca : Addr} {np hpos : Pos} {b₀ : Stmt} {suite : List Stmt} {rest : List ExceptHandler} {t : TS} {i : Nat}
end
section
variable {K : PySem.W.Frag} {H0 H : Hp} {B0 : Addr → Prop} {σ : St} {δ : SS} {R : Nat → List Addr}
def unO (i : Nat) : Out → Option Out
  | .nx δ => some (.nx (δ.set i none))
  | .bk δ => some (.bk (δ.set i none))
  | .ct δ => some (.ct (δ.set i none))
  | .rt d => some (.rt d)
  | .ex _ _ => none
def asXO (i : Nat) (x : Str) (g : SS → Option Out) : SS → Option Out := fun δ => (g (δ.set i (some (.sh (.exc x))))).bind (unO i)
theorem PH.imp {X : Cx} {hs : List ExceptHandler} {cls : Value} {t t' : TS} (h : PH X hs cls t) (w : ∀ D σ H, t' D σ H → t D σ H) : PH X hs cls t' := fun pins s σ H D ea T I fe th q => h pins s σ H D ea T I fe th (w D σ H q)
end
/-! isinstance(e, C) -/
section
variable {X : Cx} {e : Expr} {f : DE} {y : Str} {p p2 pos : Pos} {L N : List Str}
end
section
variable {X : Cx} {H0 : Hp} {B0 : Addr → Prop} {fr : Bool} {RX : XR} {x n xn : Str} {C Ca : Addr} {np hpos : Pos} {b₀ : Stmt} {suite : List Stmt} {rest : List ExceptHandler} {g : SS → Option Out} {i : Nat}
end
end L2

/-! ### E35: a list of new things; return [x, y] -/
namespace L2
open PySem PySem.Spec PyProof.Rows
def tNs (K : PySem.W.Frag) (f : DS → Option (List D)) : TA := fun σ H Q => ∃ δ ds, RepS K H noB σ δ ∧ f δ = some ds ∧ ∀ vs H' A, Same H H' → Trees K H' ds vs A → A.Nodup → (∀ a ∈ A, H a = none) → Q vs H'
abbrev PAN (X : Cx) (es : List Expr) (fl : List DE) : Prop := PA X es (tNs X.K (dArgs fl))
theorem Trees.len {K : PySem.W.Frag} {H : Hp} : ∀ {ds : List D} {xs : List V} {A : List Addr}, Trees K H ds xs A → ds.length = xs.length
  | [], _, _, h => by unfold Trees at h; rw [h.1]; rfl
  | d :: ds, _, _, h => by
    unfold Trees at h
    obtain ⟨x, r, C, C', rfl, _, h2, _⟩ := h
    simp [Trees.len h2]
section
variable {X : Cx} {e : Expr} {es : List Expr} {pos : Pos}
theorem pan_nil : PAN X [] [] := pa_nil.imp fun σ H Q ⟨δ, ds, S, q, k⟩ => by
  cases q
  exact k [] H [] (.refl H) ⟨rfl, rfl⟩ List.nodup_nil (fun a z => nomatch z)
theorem pan_cons {f : DE} {fl : List DE} (ha : PN X e f) (hr : PAN X es fl) (hs : starEach (e :: es) X.env = (false, eval e X.env) :: starEach es X.env := by rfl) : PAN X (e :: es) (f :: fl) := (pa_cons ha hr hs).imp fun σ H Q ⟨δ, ds, S, q, k⟩ => by
  obtain ⟨x, xs, e1, e2, rfl⟩ := dArgs_some q
  refine ⟨δ, x, S, e1, fun v H1 A s1 t1 nd1 f1 => ⟨δ, xs, S.mono s1, e2, fun vs H2 C s2 t2 nd2 f2 => ?_⟩⟩
  refine k (v :: vs) H2 (A ++ C) (s1.trans s2) ?_ ?_ fun a ha => ?_
  · unfold Trees
    exact ⟨v, vs, A, C, rfl, t1.mono s2, t2, rfl⟩
  · refine List.nodup_append.mpr ⟨nd1, nd2, fun a ha b hb z => ?_⟩
    subst z
    obtain ⟨o, q', _⟩ := t1.held x a ha
    rw [f2 a hb] at q'; cases q'
  · rcases List.mem_append.mp ha with z | z
    · exact f1 a z
    · exact s1.free (f2 a z)
theorem pn_list {fl : List DE} (h : PAN X es fl) (hl : fl.length ≤ 1000 := by decide) : PN X (.List es pos) (mkL (dArgs fl)) := (pe_lst h).imp fun σ H Q ⟨δ, d, S, q, k⟩ => by
  unfold mkL at q
  cases r : dArgs fl δ with
  | none => rw [r] at q; cases q
  | some ds =>
    rw [r] at q
    cases q
    refine ⟨δ, ds, S, r, fun vs H1 A s1 t1 nd fa => ⟨?_, fun p hp => ?_⟩⟩
    · rw [← t1.len, dArgs_length r]
      exact Nat.le_of_lt (small1000 hl)
    · have sp := same_upd (o := .lst vs) hp
      refine k (.ref p) _ (p :: A) (s1.trans sp) ?_ (List.nodup_cons.mpr ⟨fun z => ?_, nd⟩) fun a ha => ?_
      · unfold Tree
        exact ⟨p, vs, A, rfl, upd_same, t1.mono sp, rfl⟩
      · obtain ⟨o, q', _⟩ := Trees.held ds t1 p z
        rw [hp] at q'; cases q'
      · rcases List.mem_cons.mp ha with z | z
        · rw [z]; exact s1.free hp
        · exact fa a z
variable {H0 : Hp} {B0 : Addr → Prop} {RX : XR} {a b : Expr} {pos' : Pos}
def ownV (δ : SS) (i : Nat) : Option D := match δ[i]? with
  | some (some (.ow d)) => some d
  | some (some (.sh d)) => if d.imm = true then some d else none
  | _ => none
def ret2 (i j : Nat) : SS → Option Out := fun δ => match ownV δ i, ownV δ j with
  | some d, some e => some (.rt (.lst [d, e]))
  | _, _ => none
end
end L2

/-! ### E36: f(new thing, ..), where f takes its first argument over -/
namespace L2
open PySem PySem.Spec PyProof.Rows
def dCallM (F : List D → Option D) (f0 : DE) (fl : List DE) : DE := fun δ => (f0 δ).bind fun d0 => (dArgs fl δ).bind fun args => if imms args = true then F (d0 :: args) else none
section
variable {X : Cx} {k : Nat} {x : Str} {p pos : Pos} {e : Expr} {es : List Expr}
end
end L2

/-! ### E37: a list times an int; f(..)[i], where f may raise -/
namespace L2
open PySem PySem.Spec PyProof.Rows
def repLs : D → D → Option (List D)
  | .lst ds, .int k => if (0 ≤ k ∧ k ≤ 1000000) ∧ ds.length * k.toNat ≤ sizeLine then some (List.replicate k.toNat ds).flatten else none
  | _, _ => none
def dRep (f g : DE) : DS → Option (List D) := fun δ => (f δ).bind fun x => (g δ).bind fun y => repLs x y
theorem Reps.rep {K : PySem.W.Frag} {H : Hp} {B : Addr → Prop} {ds : List D} {xs : List V} (h : Reps K H B ds xs) : ∀ n : Nat, Reps K H B (List.replicate n ds).flatten (List.replicate n xs).flatten
  | 0 => (show Reps K H B [] [] by unfold Reps; rfl)
  | n + 1 => by
    rw [List.replicate_succ, List.replicate_succ, List.flatten_cons, List.flatten_cons]
    exact h.append (Reps.rep h n)
def dIxX (F : DS → Option XO) (g : DE) : DS → Option XO := fun δ => match F δ with
  | some (.val d) => (g δ).bind fun y => (ixD d y).bind fun z => if z.imm = true then some (.val z) else none
  | some (.exc c) => some (.exc c)
  | none => none
section
variable {X : Cx} {a b : Expr} {pos : Pos} {f g : DE} {RX : XR}
theorem pf_rep (ha : PD X a f) (hb : PD X b g) : PF X (.BinOp a .Mult b pos) (dRep f g) := (pe_op op_rep ha hb).imp fun σ H Q ⟨B, δ, ds, hB, S, q, k⟩ => by
  unfold dRep at q
  cases e1 : f δ with
  | none => rw [e1] at q; cases q
  | some x =>
  rw [e1, Option.bind_some] at q
  cases e2 : g δ with
  | none => rw [e2] at q; cases q
  | some y =>
  rw [e2, Option.bind_some] at q
  unfold repLs at q
  split at q
  case h_2 => cases q
  case h_1 xs n =>
  split at q
  case isFalse => cases q
  case isTrue hl =>
  cases q
  refine ⟨B, δ, _, hB, S, e1, fun v H1 s1 r1 => ⟨B, δ, _, hB.mono s1, S.mono s1, e2, fun v2 H2 s2 r2 => ?_⟩⟩
  unfold Rep at r2
  subst r2
  unfold Rep at r1
  obtain ⟨p1, vs, rfl, n1, h1, rs1⟩ := r1
  refine ⟨p1, n, vs, rfl, rfl, s2 _ _ h1, by omega, by omega, by rw [← rs1.length]; exact hl.2, fun p hp => ?_⟩
  exact k p _ _ ((s1.trans s2).trans (same_upd hp)) ((s1.trans s2).free hp) upd_same (((rs1.mono s2).rep _).mono (same_upd hp))
end
end L2

/-! ### E38: sorted of a dict -/
namespace PySem
open Sem (wp)
section
variable {K : Type} [DecidableEq K] {prog : Program} {w : World} {knd : KeyKind prog w K} {A : Around} {E : Value → Shared → Prop} {s : Shared}
end
end PySem

/-! ### E39: sorted of a dict, by trees -/
namespace L2
open PySem PySem.Spec PyProof.Rows
section
variable {prog : Program} {w : World} {A : Around} {E : Value → Shared → Prop} {s : Shared}
end
section
variable {X : Cx}
variable {e : Expr} {f : DE} {p pos : Pos}
end
end L2

/-! ### E40: {k: v} of ints; range(a, b, -1); f(..)[i] of new lists -/
namespace L2
open PySem PySem.Spec PyProof.Rows
def mkD1 : D → D → Option D
  | .int a, .int b => some (.dct [.inl a] [.int b])
  | _, _ => none
def dDisp1 (fk fv : DE) : DE := d2 mkD1 fk fv
section
variable {X : Cx} {ke ve : Expr} {pos : Pos} {f g : DE}
end
section
variable {X : Cx} {tg : Expr}
def rngN : Option D → Option D → Option D → Option (List D)
  | some (.int i), some (.int j), some (.int c) => if c = -1 ∧ -(2 ^ 61) ≤ i ∧ i < 2 ^ 61 ∧ -(2 ^ 61) ≤ j ∧ j < 2 ^ 61 then some (rngC i (-1) (i - j).toNat) else none
  | _, _, _ => none
def dRngN (f g h : DE) : DS → Option (List D) := fun δ => rngN (f δ) (g δ) (h δ)
end
theorem Trees.at {K : PySem.W.Frag} {H : Hp} : ∀ {ds : List D} {xs : List V} {A : List Addr} {k : Nat} {d : D}, Trees K H ds xs A → A.Nodup → ds[k]? = some d → ∃ v C, xs[k]? = some v ∧ Tree K H d v C ∧ C.Nodup ∧ ∀ a ∈ C, a ∈ A
  | [], _, _, _, _, _, _, e => by cases e
  | d :: ds, xs, A, k, d', h, nd, e => by
    unfold Trees at h
    obtain ⟨x, r, C, C', rfl, h1, h2, rfl⟩ := h
    have n2 := List.nodup_append.mp nd
    cases k with
    | zero => cases e; exact ⟨x, C, rfl, h1, n2.1, fun a ha => List.mem_append.mpr (.inl ha)⟩
    | succ k =>
      obtain ⟨v, D', e1, t1, nd1, sb⟩ := Trees.at (k := k) h2 n2.2.1 (by simpa using e)
      exact ⟨v, D', by simpa using e1, t1, nd1, fun a ha => List.mem_append.mpr (.inr (sb a ha))⟩
def ixL : D → D → Option D
  | .lst ds, .int i => atI ds i
  | _, _ => none
section
variable {X : Cx} {a b : Expr} {pos : Pos} {f g : DE}
end
end L2

/-! ### E41: for x, y in enumerate(xs) -/
namespace L2
open PySem PySem.Spec PyProof.Rows
def twoD : D → Option (D × D)
  | .tup [a, b] => some (a, b)
  | _ => none
theorem twoD_some {d : D} {z : D × D} (h : twoD d = some z) : d = .tup [z.1, z.2] := by
  unfold twoD at h
  split at h
  · cases h; rfl
  · cases h
def forD2 (i j : Nat) (b : SS → Option Out) : List D → SS → Option Out
  | [], δ => some (.nx δ)
  | d :: r, δ => (twoD d).bind fun z => (b ((δ.set i (some (.sh z.1))).set j (some (.sh z.2)))).bind fun o => match o with
    | .nx δ' => forD2 i j b r δ'
    | .ct δ' => forD2 i j b r δ'
    | .bk δ' => some (.nx δ')
    | .rt d => some (.rt d)
    | .ex c δ' => some (.ex c δ')
def forO2 (i j : Nat) (f : DS → Option (List D)) (g : SS → Option Out) : SS → Option Out := fun δ => (f (shV δ)).bind fun ds => forD2 i j g ds δ
section
variable {X : Cx} {H0 : Hp} {B0 : Addr → Prop} {fr : Bool} {RX : XR} {pos : Pos}
def gPair (K : PySem.W.Frag) (i j : Nat) : TG := gTup K 2 (gCons (gName i) (gCons (gName j) gNil))
theorem s_for2 {i j : Nat} {tg : Expr} {iter : Expr} {body : List Stmt} {f : DS → Option (List D)} {g : SS → Option Out} (hp : PassesOwn (model X.prog X.w) X.A X.env X.xe) (hc : X.calm = true) (hi : PID X tg iter f) (hg : PG X tg (gPair X.K i j)) (hb : PSs X body (tS X.K H0 B0 fr RX g))
    (hs : ∀ x, foldedSetIterable iter X.env x = pure x := by intro _; rfl) : PS X (.For tg iter body [] pos) (tS X.K H0 B0 fr RX (forO2 i j f g)) := PS.imp (ps_for hp hc hi hg hb hs) fun D σ H ⟨δ, R, o, rs, q, k⟩ => by
  unfold forO2 at q
  cases e : f (shV δ) with
  | none => rw [e] at q; cases q
  | some ds =>
  rw [e] at q
  have q : forD2 i j g ds δ = some o := q
  refine ⟨_, shV δ, ds, rs.inAll, rs.shr, e, fun J H1 s1 itw => ?_⟩
  have rs1 := rs.mono s1
  have it := itw (fun a => H1 a = none) fun a z => z
  refine ⟨fun n m σ' H' => m = ds.length - n ∧ n ≤ ds.length ∧ ∃ δ' R', RS X.K H0 B0 H' σ' δ' R' ∧ Stp R H1 R' H' ∧ forD2 i j g (ds.drop n) δ' = some o, ⟨ds.length, by simp, Nat.zero_le _, δ, R, rs1, .refl R H1, q⟩, ?_⟩
  rintro n m σ' H' ⟨rfl, hn, δ', R', rs', s', q'⟩
  have kp : Keep X.K (fun a => (B0 a ∨ ∃ r, a ∈ R r) ∨ H1 a = none) H1 H' := s'.keepB (fun r a z => .inl (.inr ⟨r, z⟩)) rs1.held
  by_cases hlt : n < ds.length
  · have hx : ds.drop n = ds[n] :: ds.drop (n + 1) := List.drop_eq_getElem_cons hlt
    rw [hx] at q'
    unfold forD2 at q'
    cases et : twoD ds[n] with
    | none => rw [et] at q'; cases q'
    | some z =>
    rw [et, Option.bind_some] at q'
    cases eb : g ((δ'.set i (some (.sh z.1))).set j (some (.sh z.2))) with
    | none => rw [eb] at q'; cases q'
    | some ob =>
      rw [eb] at q'
      refine .inr ⟨it.go n H' kp hlt, fun σ2 H2 => n + 1 ≤ ds.length ∧ ∃ δ2 R2, RS X.K H0 B0 H2 σ2 δ2 R2 ∧ Stp R H1 R2 H2 ∧ forD2 i j g (ds.drop (n + 1)) δ2 = some o, fun σ2 H2 z => ⟨ds.length - (n + 1), by omega, rfl, z⟩, fun xv H2 hy => ?_⟩
      obtain ⟨s2, d, hd, rd⟩ := it.yld n H' xv H2 kp hy
      have hdi : d = ds[n] := by
        have := hd hlt
        rw [List.getElem?_eq_getElem hlt] at this
        exact (Option.some.inj this).symm
      subst hdi
      have rd' : Rep X.K H2 (fun a => B0 a ∨ ∃ r, a ∈ R' r) ds[n] xv := rd.anti fun a z => by
        rcases z with z | ⟨r, z⟩
        · exact .inl (.inl z)
        · rcases s'.from' r a z with z | z
          · exact .inl (.inr z)
          · exact .inr z
      rw [twoD_some et] at rd'
      unfold Rep at rd'
      obtain ⟨p, vs, rfl, hsq, rvs⟩ := rd'
      unfold Reps at rvs
      obtain ⟨va, r1, rfl, ra, rvs⟩ := rvs
      unfold Reps at rvs
      obtain ⟨vb, r2, rfl, rb, rvs⟩ := rvs
      unfold Reps at rvs
      subst rvs
      refine ⟨p, [va, vb], rfl, hsq, rfl, va, [vb], rfl, vb, [], rfl, rfl, ?_⟩
      have rs2 := ((rs'.mono s2).setSh (i := i) ra).setSh (i := j) rb
      have st2 : Stp R H1 R' H2 := s'.trans (.same s2)
      refine ⟨_, R', ob, rs2, eb, ?_⟩
      cases ob with
      | nx δ2 =>
        have q2 : forD2 i j g (ds.drop (n + 1)) δ2 = some o := q'
        exact fun σ3 H3 R3 rs3 s3 => ⟨hlt, δ2, R3, rs3, st2.trans s3, q2⟩
      | ct δ2 =>
        have q2 : forD2 i j g (ds.drop (n + 1)) δ2 = some o := q'
        exact fun σ3 H3 R3 rs3 s3 => ⟨hlt, δ2, R3, rs3, st2.trans s3, q2⟩
      | bk δ2 =>
        cases q'
        exact fun σ3 H3 R3 rs3 s3 => k σ3 H3 R3 rs3 ((Stp.same s1).trans (st2.trans s3))
      | rt d =>
        cases q'
        exact k.back ((Stp.same s1).trans st2)
      | ex c δ2 =>
        cases q'
        exact k.back ((Stp.same s1).trans st2)
  · have en : n = ds.length := by omega
    subst en
    rw [List.drop_length] at q'
    cases q'
    exact .inl ⟨it.stop _ H' kp (Nat.le_refl _), k σ' H' R' rs' ((Stp.same s1).trans s')⟩
theorem pg_pair {i j : Nat} {x y : Str} {px py tp : Pos} {x1} (hc : X.calm = true) (h1 : PG X (.Name x px) (gName i)) (h2 : PG X (.Name y py) (gName j))
    (hs : (assignEach [.Name x px, .Name y py] X.env).map (·.2) = assign (.Name x px) X.env :: (assignEach [.Name y py] X.env).map (·.2) := by rfl) (hs2 : (assignEach [.Name y py] X.env).map (·.2) = assign (.Name y py) X.env :: (assignEach [] X.env).map (·.2) := by rfl)
    (hn : (assignEach [.Name x px, .Name y py] X.env).length = 2 := by rfl) (hst : (assignEach [.Name x px, .Name y py] X.env).findIdx? (·.1) = none := by rfl) : PG X (.Tuple [.Name x px, .Name y py] x1 tp) (gPair X.K i j) :=
  pg_tup hc (pgs_cons h1 (pgs_cons h2 pgs_nil hs2) hs) hn hst
end
end L2

/-! ### E42: min of a list of ints -/
namespace L2
open PySem PySem.Spec PyProof.Rows
def bst (ns : List Int) : Nat → Nat
  | 0 => 0
  | k + 1 => if decide (ns.getD (k + 1) 0 < ns.getD (bst ns k) 0) = true then k + 1 else bst ns k
def mnI (ns : List Int) : Int := ns.getD (bst ns (ns.length - 1)) 0
theorem best_bst {bt : Nat → Nat → Bool} {ns : List Int} (h : ∀ i j, bt i j = decide (ns.getD i 0 < ns.getD j 0)) : ∀ k, argBest bt k = bst ns k
  | 0 => rfl
  | k + 1 => by
    unfold argBest bst
    rw [best_bst h k, h]
section
variable {X : Cx}
theorem call_minL (hc : X.calm = true) : CallR X (.builtin "min") (fun xs H Q => ∃ (p : Addr) (ns : List Int), xs = [.ref p] ∧ SqL X.K H p (ns.map V.int) ∧ ns ≠ [] ∧ Q (.int (mnI ns)) H) := by
  intro pins s σ H xs us Q I r h
  obtain ⟨p, ns, rfl, hq, hne, q⟩ := h
  obtain ⟨u, rfl, ru⟩ := vals1 r
  cases ru
  obtain ⟨its, rv, pl, hz⟩ := I.list hq
  have hi := intsAre_of rv
  obtain ⟨xs, hx⟩ := hi.allInts.items
  have hl' : s.heap.IsList p (intItems xs) := hx ▸ pl.isList
  have e1 : ns = xs.toList.map (·.1) := by
    rw [← nums_intItems, ← hx]
    exact (show numsOf its.toArray.toList = ns from hi.numsOf).symm
  have hsz : xs.size = ns.length := by rw [e1]; simp
  have hp : 0 < ns.length := List.length_pos_iff.mpr hne
  refine min_intList (I.ok.hd hc) hl' (by omega) fun v h' tk hv hk => ?_
  have eb : argBest (fun i j => decide (numAt xs i < numAt xs j)) (xs.size - 1) = bst ns (ns.length - 1) := by
    rw [hsz]
    refine best_bst (fun i j => ?_) _
    have en : ∀ k, numAt xs k = ns.getD k 0 := fun k => by
      rw [e1]
      unfold numAt
      simp [List.getD]
    rw [en, en]
  rw [eb] at hv
  obtain ⟨t, rfl⟩ := intItems_at hv
  have en : numAt xs (bst ns (ns.length - 1)) = mnI ns := by
    unfold mnI
    rw [e1]
    unfold numAt
    simp [List.getD]
  exact ⟨.int _, H, I.kept hk, ⟨t, by rw [en]⟩, q⟩
def minLF : List D → Option D
  | [.lst ds] => (ints' ds).bind fun ns => if ns.isEmpty = true then none else some (.int (mnI ns))
  | _ => none
theorem oa_minL {K : PySem.W.Frag} : OpA K (fun xs H Q => ∃ (p : Addr) (ns : List Int), xs = [.ref p] ∧ SqL K H p (ns.map V.int) ∧ ns ≠ [] ∧ Q (.int (mnI ns)) H) minLF := by
  intro H B ds d vs Q hB hr q k
  unfold minLF at q
  split at q
  · rename_i es
    cases e : ints' es with
    | none => rw [e] at q; cases q
    | some bs =>
      rw [e, Option.bind_some] at q
      split at q
      · cases q
      · rename_i hn
        cases q
        obtain ⟨v, rfl, r⟩ := reps1 hr
        unfold Rep at r
        obtain ⟨a, xs, rfl, _, h, rs⟩ := r
        rw [ints_vals e rs] at h
        exact ⟨a, bs, rfl, SqL.of h, fun z => hn (by rw [z]; rfl), k _ H (.refl H) rfl⟩
  · cases q
variable {e : Expr} {f : DE} {p pos : Pos}
theorem pd_minL (hc : X.calm = true) (hg : Gl X "min") (hm : X.mg "min" = none) (h : PD X e f) (he : starEach [e] X.env = [(false, eval e X.env)] := by rfl) : PD X (.Call (.Name "min" p) [e] [] pos) (dCall minLF [f]) :=
  pd_callB (call_minL hc) oa_minL hg hm boot_min (pad_cons h pad_nil he) (by decide) (by decide) he rfl
end
end L2

/-! ### E43: xs[a::k] -/
namespace L2
open PySem PySem.Spec PyProof.Rows
def stepIx (n : Nat) (lo st : Int) : List Nat := sliceRange (min lo n) n st
def stepLs : D → D → D → Option (List D)
  | .lst ds, .int lo, .int st => if 0 ≤ lo ∧ 0 < st then some ((stepIx ds.length lo st).filterMap (ds[·]?)) else none
  | .scr ns, .int lo, .int st => if 0 ≤ lo ∧ 0 < st then some ((stepIx ns.length lo st).filterMap ((ns.map D.int)[·]?)) else none
  | _, _, _ => none
def dStep (f g h : DE) : DS → Option (List D) := fun δ => (f δ).bind fun x => (g δ).bind fun y => (h δ).bind fun z => stepLs x y z
theorem Reps.pick {K : PySem.W.Frag} {H : Hp} {B : Addr → Prop} {ds : List D} {xs : List V} (h : Reps K H B ds xs) : ∀ l : List Nat, Reps K H B (l.filterMap (ds[·]?)) (l.filterMap (xs[·]?))
  | [] => .nil
  | j :: l => by
    rw [List.filterMap_cons, List.filterMap_cons]
    cases e : ds[j]? with
    | none =>
      have hn : xs[j]? = none := by
        rw [List.getElem?_eq_none_iff] at e ⊢
        rw [← h.length]
        exact e
      rw [hn]
      exact h.pick l
    | some d =>
      obtain ⟨x, e2, r⟩ := h.get e
      rw [e2]
      exact .cons r (h.pick l)
theorem Vals.pick {xs : List V} {us : List Value} (h : Vals xs us) : ∀ l : List Nat, Vals (l.filterMap (xs[·]?)) (l.filterMap (us[·]?))
  | [] => .nil
  | j :: l => by
    rw [List.filterMap_cons, List.filterMap_cons]
    cases e : xs[j]? with
    | none =>
      rw [h.none_of e]
      exact h.pick l
    | some d =>
      obtain ⟨x, e2, r⟩ := h.get e
      rw [e2]
      exact .cons r (h.pick l)
section
variable {X : Cx} {e lo st : Expr} {te : TE} {tl tk : TO} {pos p2 : Pos}
def tStep (K : PySem.W.Frag) (te : TE) (tl tk : TO) : TE := fun σ H Q => te σ H fun x H1 => tl σ H1 fun l H2 => tk σ H2 fun k H3 => ∃ a xs l' k', x = .ref a ∧ l = some l' ∧ k = some k' ∧ 0 ≤ l' ∧ 0 < k' ∧ SqL K H3 a xs ∧ ∀ p, H3 p = none → Q (.ref p) (upd H3 p (.lst ((stepIx xs.length l' k').filterMap (xs[·]?))))
theorem fm_arr {α : Type} (l : List Nat) (its : List α) : (l.filterMap (fun j => its.toArray[j]?)) = l.filterMap (its[·]?) := by
  refine HT.fm_congr fun m _ => ?_
  simp
theorem fm_length {α : Type} (f : Nat → Option α) (l : List Nat) : (l.filterMap f).length ≤ l.length := List.length_filterMap_le f l
theorem bounds_step {n : Nat} {l k : Int} (hl : 0 ≤ l) (hk : 0 < k) : sliceBounds (some l) none (some k) n = (min l n, (n : Int), k) := by
  unfold sliceBounds
  have h1 : k > 0 := hk
  have h2 : ¬ l < 0 := by omega
  simp only [Option.getD_some, h1, if_true, h2, if_false]
  rw [Int.max_eq_right (by omega)]
theorem pe_step (he : PE X e te) (hl : PO X (some lo) tl) (hk : PO X (some st) tk) (hsub : ∀ v u, subscripted (.Slice (some lo) none (some st) p2) false v u = operate [v, u] (getItem v u) := by intro _ _; rfl) : PE X (.Subscript e (.Slice (some lo) none (some st) p2) pos) (tStep X.K te tl tk) := by
  intro pins s σ H Q I h
  refine Subscript_ (thn (he pins s σ H _ I h) fun v s1 ⟨x, H1, I1, r1, q1⟩ => ?_)
  refine wpAny_Slice (thn (hl pins s1 σ H1 _ I1 q1) fun vl s2 ⟨l, H2, I2, pl0, q2⟩ => ?_)
  rw [evalPart_none]
  refine wpAny_pure (thn (hk pins s2 σ H2 _ I2 q2) fun vk s3 ⟨k, H3, I3, pk, q3⟩ => ?_)
  obtain ⟨a, xs, l', k', rfl, rfl, rfl, h1, h2, hq, q⟩ := q3
  cases r1
  have I4 : Inv X pins σ H3 { s3 with heap := s3.heap.push { cls := .type "slice", data := .fields #[vl, .none, vk] } } := I3.kept (t' := s3.toks) fun b ob q => Heap.get?_push_of_some _ q
  obtain ⟨its, r, pl, hz⟩ := I4.list hq
  have hlen := r.length
  refine tail_any (ops := [.ref a, .ref s3.heap.objs.size]) pl.isList.typeIs list_getitem_lookup ?_ (hsub _ _)
  refine wpAny_getItem_list_slice pl.isList (Heap.IsSliceOf.new ..) pl0 .none pk (by intro h; cases h; omega) ?_ (by simp only [List.size_toArray] <;> omega)
  have ep : slicePick its.toArray (some l') none (some k') = ((stepIx xs.length l' k').filterMap (its[·]?)).toArray := by
    unfold slicePick
    rw [bounds_step h1 h2, List.size_toArray, ← hlen, fm_arr]
    rfl
  rw [ep]
  refine ⟨.ref _, _, I4.lnew (t' := s3.toks) (ys := (stepIx xs.length l' k').filterMap (xs[·]?)) ?_ ?_, rfl, q _ I4.fresh⟩
  · exact r.pick _
  · refine Nat.le_trans (fm_length _ _) (Nat.le_trans ?_ hz)
    unfold stepIx
    exact sliceRange_length_le _ _ _ xs.length (fun _ => ⟨by omega, by omega⟩) (fun h => absurd h2 (by omega))
variable {f g h : DE}
theorem pf_step (he : PD X e f) (hl : PD X lo g) (hk : PD X st h) (hsub : ∀ v u, subscripted (.Slice (some lo) none (some st) p2) false v u = operate [v, u] (getItem v u) := by intro _ _; rfl) : PF X (.Subscript e (.Slice (some lo) none (some st) p2) pos) (dStep f g h) :=
  (pe_step he (po_some hl) (po_some hk) hsub).imp fun σ H Q ⟨B, δ, ds, hB, S, q, k⟩ => by
    unfold dStep at q
    cases e1 : f δ with
    | none => rw [e1] at q; cases q
    | some x =>
    rw [e1, Option.bind_some] at q
    cases e2 : g δ with
    | none => rw [e2] at q; cases q
    | some y =>
    rw [e2, Option.bind_some] at q
    cases e3 : h δ with
    | none => rw [e3] at q; cases q
    | some z =>
    rw [e3, Option.bind_some] at q
    unfold stepLs at q
    split at q
    case h_3 => cases q
    case h_1 es lo' j =>
      split at q
      case isFalse => cases q
      case isTrue hj =>
      cases q
      refine ⟨B, δ, _, hB, S, e1, fun v H1 s1 r1 => ⟨B, δ, _, hB.mono s1, S.mono s1, e2, fun v2 H2 s2 r2 => ?_⟩⟩
      unfold Rep at r2
      subst r2
      refine ⟨lo', rfl, B, δ, _, (hB.mono s1).mono s2, (S.mono s1).mono s2, e3, fun v3 H3 s3 r3 => ?_⟩
      unfold Rep at r3
      subst r3
      unfold Rep at r1
      obtain ⟨a, xs, rfl, n, hq, rs⟩ := r1
      have rl := rs.length
      refine ⟨j, rfl, a, xs, lo', j, rfl, rfl, rfl, hj.1, hj.2, SqL.of ((s2.trans s3) _ _ hq), fun p hp => ?_⟩
      rw [← rl]
      exact k p _ _ (((s1.trans s2).trans s3).trans (same_upd hp)) (((s1.trans s2).trans s3).free hp) upd_same (((rs.pick _).mono (s2.trans s3)).mono (same_upd hp))
    case h_2 ns lo' j =>
      split at q
      case isFalse => cases q
      case isTrue hj =>
      cases q
      refine ⟨B, δ, _, hB, S, e1, fun v H1 s1 r1 => ⟨B, δ, _, hB.mono s1, S.mono s1, e2, fun v2 H2 s2 r2 => ?_⟩⟩
      unfold Rep at r2
      subst r2
      refine ⟨lo', rfl, B, δ, _, (hB.mono s1).mono s2, (S.mono s1).mono s2, e3, fun v3 H3 s3 r3 => ?_⟩
      unfold Rep at r3
      subst r3
      unfold Rep at r1
      obtain ⟨a, rfl, hq⟩ := r1
      refine ⟨j, rfl, a, _, lo', j, rfl, rfl, rfl, hj.1, hj.2, ((s2.trans s3).sf hq).sq, fun p hp => ?_⟩
      rw [List.length_map]
      exact k p _ _ (((s1.trans s2).trans s3).trans (same_upd hp)) (((s1.trans s2).trans s3).free hp) upd_same ((reps_ints ns).pick _)
end
end L2

/-! ### E44: products of greater numbers -/
namespace L2
open PySem PySem.Spec PyProof.Rows
def bigL : Nat := 2 ^ 250
def CMulB (i j : Int) : Prop := i.natAbs < bigL ∧ j.natAbs < bigL
instance {i j : Int} : Decidable (CMulB i j) := by unfold CMulB; infer_instance
def mulB : D → D → Option D := iop fun i j => if CMulB i j then some (.int (i * j)) else none
theorem CMulB.ok {i j : Int} (h : CMulB i j) : IntMulOk i j := by
  have h1 : Builtin.Int.intBits i ≤ 250 := intBits_le h.1
  have h2 : Builtin.Int.intBits j ≤ 250 := intBits_le h.2
  have h3 : Builtin.Int.intTooBig ((Builtin.Int.intBits i : Int) + (Builtin.Int.intBits j : Int)) = false := by
    unfold Builtin.Int.intTooBig
    apply decide_eq_false
    have hb : (2000 : Int) ≤ bitsLine := by decide
    omega
  unfold IntMulOk
  rw [h3]
  simp
section
variable {X : Cx} {a b : Expr} {pos : Pos} {f g : DE}
theorem op_mulB : OpR X (binaryOp .Mult) (rI CMulB fun i j => .int (i * j)) := opI fun _ _ _ _ _ _ _ hc q => mul_int q hc.ok
theorem pd_mulB (ha : PD X a f) (hb : PD X b g) : PD X (.BinOp a .Mult b pos) (d2 mulB f g) := pd_op op_mulB o2_int ha hb
end
end L2

/-! ### E45: for x in range(..), the bounds read from anything; return [x, y, z] -/
namespace L2
open PySem PySem.Spec PyProof.Rows
section
variable {X : Cx} {tg iter a b : Expr} {p pos pos' : Pos}
structure ItF (J : It) (lo : Int) (n : Nat) : Prop where
  go : ∀ i H', i < n → J.go i H'
  stop : ∀ i H', n ≤ i → J.stop i H'
  yld : ∀ i H' x H2, J.yld i H' x H2 → Same H' H2 ∧ x = .int (lo + (i : Int))
def dIv1 (f : DE) : DS → Option (Int × Nat) := fun δ => match f δ with
  | some (.int j) => if -(2 ^ 62) ≤ j ∧ j < 2 ^ 62 then some (0, j.toNat) else none
  | _ => none
def dIv2 (f g : DE) : DS → Option (Int × Nat) := fun δ => match f δ, g δ with
  | some (.int i), some (.int j) => if -(2 ^ 62) ≤ i ∧ i < 2 ^ 62 ∧ -(2 ^ 62) ≤ j ∧ j < 2 ^ 62 then some (i, (j - i).toNat) else none
  | _, _ => none
def forI (i : Nat) (f : DS → Option (Int × Nat)) (b : SS → Option Out) : SS → Option Out := fun δ => (f (allV δ)).bind fun z => forD i b (rngL z.1 z.2) δ
variable {H0 : Hp} {B0 : Addr → Prop} {fr : Bool} {RX : XR}
/-! return [x, y, z] -/
def ret3 (i j l : Nat) : SS → Option Out := fun δ => match ownV δ i, ownV δ j, ownV δ l with
  | some d, some e, some f => some (.rt (.lst [d, e, f]))
  | _, _, _ => none
variable {c : Expr}
end
end L2

/-! ### E46: new lists of new things put together -/
namespace L2
open PySem PySem.Spec PyProof.Rows
section
variable {X : Cx} {a b : Expr} {pos : Pos} {f g : DE}
end
end L2

/-! ### E47: t[lo:hi] of a tuple, also the whole of it; max of a list of ints -/
namespace HT
open PySem PySem.Spec PyProof.Rows
section
variable {prog : Program} {w : World} {A : Around} {E : Value → Shared → Prop} {s : Shared}
end
end HT
namespace L2
open PySem PySem.Spec PyProof.Rows
section
variable {X : Cx} {e a b : Expr} {lo hi : Option Expr} {p p2 pos : Pos}
def dCutT (f : DE) (fl fh : DS → Option (Option Int)) : DE := fun δ => match f δ with
  | some (.tup ds) => (fl δ).bind fun lo => (fh δ).map fun hi => .tup (cutL ds lo hi)
  | _ => none
/-! max of a list -/
def bstX (ns : List Int) : Nat → Nat
  | 0 => 0
  | k + 1 => if decide (ns.getD (k + 1) 0 > ns.getD (bstX ns k) 0) = true then k + 1 else bstX ns k
def mxI (ns : List Int) : Int := ns.getD (bstX ns (ns.length - 1)) 0
theorem best_bstX {bt : Nat → Nat → Bool} {ns : List Int} (h : ∀ i j, bt i j = decide (ns.getD i 0 > ns.getD j 0)) : ∀ k, argBest bt k = bstX ns k
  | 0 => rfl
  | k + 1 => by
    unfold argBest bstX
    rw [best_bstX h k, h]
theorem call_maxL (hc : X.calm = true) : CallR X (.builtin "max") (fun xs H Q => ∃ (p : Addr) (ns : List Int), xs = [.ref p] ∧ SqL X.K H p (ns.map V.int) ∧ ns ≠ [] ∧ Q (.int (mxI ns)) H) := by
  intro pins s σ H xs us Q I r h
  obtain ⟨p, ns, rfl, hq, hne, q⟩ := h
  obtain ⟨u, rfl, ru⟩ := vals1 r
  cases ru
  obtain ⟨its, rv, pl, hz⟩ := I.list hq
  have hi := intsAre_of rv
  obtain ⟨xs, hx⟩ := hi.allInts.items
  have hl' : s.heap.IsList p (intItems xs) := hx ▸ pl.isList
  have e1 : ns = xs.toList.map (·.1) := by
    rw [← nums_intItems, ← hx]
    exact (show numsOf its.toArray.toList = ns from hi.numsOf).symm
  have hsz : xs.size = ns.length := by rw [e1]; simp
  have hp : 0 < ns.length := List.length_pos_iff.mpr hne
  refine max_intList (I.ok.hd hc) hl' (by omega) fun v h' tk hv hk => ?_
  have eb : argBest (fun i j => decide (numAt xs i > numAt xs j)) (xs.size - 1) = bstX ns (ns.length - 1) := by
    rw [hsz]
    refine best_bstX (fun i j => ?_) _
    have en : ∀ k, numAt xs k = ns.getD k 0 := fun k => by
      rw [e1]
      unfold numAt
      simp [List.getD]
    rw [en, en]
  rw [eb] at hv
  obtain ⟨t, rfl⟩ := intItems_at hv
  have en : numAt xs (bstX ns (ns.length - 1)) = mxI ns := by
    unfold mxI
    rw [e1]
    unfold numAt
    simp [List.getD]
  exact ⟨.int _, H, I.kept hk, ⟨t, by rw [en]⟩, q⟩
def maxLF : List D → Option D
  | [.lst ds] => (ints' ds).bind fun ns => if ns.isEmpty = true then none else some (.int (mxI ns))
  | _ => none
theorem oa_maxL {K : PySem.W.Frag} : OpA K (fun xs H Q => ∃ (p : Addr) (ns : List Int), xs = [.ref p] ∧ SqL K H p (ns.map V.int) ∧ ns ≠ [] ∧ Q (.int (mxI ns)) H) maxLF := by
  intro H B ds d vs Q hB hr q k
  unfold maxLF at q
  split at q
  · rename_i es
    cases e : ints' es with
    | none => rw [e] at q; cases q
    | some bs =>
      rw [e, Option.bind_some] at q
      split at q
      · cases q
      · rename_i hn
        cases q
        obtain ⟨v, rfl, r⟩ := reps1 hr
        unfold Rep at r
        obtain ⟨a, xs, rfl, _, h, rs⟩ := r
        rw [ints_vals e rs] at h
        exact ⟨a, bs, rfl, SqL.of h, fun z => hn (by rw [z]; rfl), k _ H (.refl H) rfl⟩
  · cases q
variable {f : DE}
theorem pd_maxL (hc : X.calm = true) (hg : Gl X "max") (hm : X.mg "max" = none) (h : PD X e f) (he : starEach [e] X.env = [(false, eval e X.env)] := by rfl) : PD X (.Call (.Name "max" p) [e] [] pos) (dCall maxLF [f]) :=
  pd_callB (call_maxL hc) oa_maxL hg hm boot_max (pad_cons h pad_nil he) (by decide) (by decide) he rfl
end
end L2

/-! ### E48: the tables of sets: their places rise as long as they are plain -/
namespace PySem
namespace SetTable
def Up (xs : Array Nat) : Prop := xs.toList.Pairwise (· < ·)
end SetTable
/-- what is known of a set's table -/
def TI (t : SetTable) : Prop := t.led = true ∧ (t.plain = true → SetTable.Up t.place)
end PySem

/-! ### E49: set(xs) of ints, with what is known of its table -/
namespace PySem
section
variable {prog : Program} {w : World} {K : Type} [DecidableEq K] (knd : KeyKind prog w K)
variable {knd} {A : Around} {E : Value → Shared → Prop} {s : Shared}
end
section
variable {prog : Program} {w : World} {A : Around} {R : Result → Shared → Prop} {I : Addr} {fp wr : List Addr} {G : Array GenState → Array GenState → Prop} {n : Nat} {P : Nat → Value → Prop} {St : Nat → Shared → Prop}
open PyProof.Rows in
end
end PySem

/-! ### E50: set(xs), the call -/
namespace PySem
section
variable {prog : Program} {w : World} {A : Around} {E : Value → Shared → Prop} {s : Shared}
open PyProof.Rows in
set_option maxHeartbeats 3200000 in
open PyProof.Rows in
end
end PySem

/-! ### E51: going through a set -/
namespace PySem
section
variable {M : Model} {A : Around} {E : Value → Shared → Prop} {s : Shared}
end
section
variable {prog : Program} {w : World} {A : Around} {E : Value → Shared → Prop} {s : Shared}
end
end PySem

/-! ### E52: a set's iterator -/
namespace PySem
def Heap.SIt (g : Heap) (I a : Addr) (first : Value) (i n ep : Nat) : Prop := ∃ ob, g.get? I = some ob ∧ ob.cls = .type "set_iterator" ∧ ob.data = .fields #[first, .int i 0, .ref a, .int n 0, .int ep 0]
section
variable {prog : Program} {w : World} {A : Around} {E : Value → Shared → Prop} {s : Shared}
end
end PySem

/-! ### E53: collect of a set of ints -/
namespace PySem
section
variable {prog : Program} {w : World} {A : Around} {E : Value → Shared → Prop} {s : Shared}
end
end PySem

/-! ### E54: collect of a set -/
namespace PySem
open Sem (wp)
section
variable {K : Type} [DecidableEq K] {prog : Program} {w : World} {knd : KeyKind prog w K} {A : Around} {E : Value → Shared → Prop} {s : Shared}
end
end PySem

/-! ### E55: sorted(set(xs)), xs a list of ints -/
namespace L2
open PySem PySem.Spec PyProof.Rows
def ddI (ns : List Int) : List Int := ns.foldl (fun acc n => if acc.any (· == n) then acc else acc ++ [n]) []
section
variable {prog : Program} {w : World} {A : Around} {E : Value → Shared → Prop} {s : Shared}
end
section
variable {X : Cx} {e : Expr} {te : TE} {p p' pos pos' : Pos}
def sortSF : D → Option (List D)
  | .lst ds => (ints' ds).bind fun ns => if ns.length ≤ 1000 ∧ (ddI ns).length < 64 then some ((srtI (ddI ns)).map .int) else none
  | _ => none
def dSortS (f : DE) : DS → Option (List D) := fun δ => (f δ).bind sortSF
variable {f : DE}
end
end L2

/-! ### E56: lists put together, the script among them -/
namespace L2
open PySem PySem.Spec PyProof.Rows
section
variable {X : Cx} {a b : Expr} {pos : Pos} {f g : DE}
def seqL : D → Option (List D)
  | .lst ds => some ds
  | .scr ns => some (ns.map .int)
  | _ => none
def catSs : D → D → Option (List D) := fun x y => (seqL x).bind fun ds => (seqL y).bind fun es => if ds.length + es.length ≤ sizeLine then some (ds ++ es) else none
def dCatS (f g : DE) : DS → Option (List D) := fun δ => (f δ).bind fun x => (g δ).bind fun y => catSs x y
end
end L2

/-! ### E57: isinstance(x, str) -/
namespace L2
open PySem PySem.Spec PyProof.Rows
section
variable {X : Cx} {e : Expr} {p p2 pos : Pos}
end
end L2

/-! ### E58: len(set(xs)), xs a list of ints -/
namespace L2
open PySem PySem.Spec PyProof.Rows
section
variable {X : Cx} {e : Expr} {te : TE} {p p' pos pos' : Pos}
variable {f : DE}
end
end L2

/-! ### E59: tuples put together -/
namespace L2
open PySem PySem.Spec PyProof.Rows
section
variable {X : Cx} {a b : Expr} {pos : Pos} {f g : DE}
end
end L2

/-! ### E60: `if not f(..):` where f may raise -/
namespace L2
open PySem PySem.Spec PyProof.Rows
section
variable {X : Cx} {c : Expr} {a b : List Stmt} {p2 pos : Pos} {H0 : Hp} {B0 : Addr → Prop} {fr : Bool} {RX : XR} {F : DS → Option XO} {g h : SS → Option Out}
def ifNX (F : DS → Option XO) (g h : SS → Option Out) : SS → Option Out := fun δ => (F (allV δ)).bind fun o => match o with
  | .val (.bl k) => if k = true then h δ else g δ
  | .exc c => some (.ex c δ)
  | _ => none
end
end L2

/-! ### E61: C(e) of a class of the program under ValueError, as a new thing -/
namespace L2
open PySem PySem.Spec PyProof.Rows
section
variable {X : Cx} {x : Str} {C : Addr} {np cpos : Pos} {e₀ : Expr} {te : TE} {f : DE}
end
end L2

/-! ### E62: for x in f(..) where f may raise -/
namespace L2
open PySem PySem.Spec PyProof.Rows
section
variable {X : Cx} {pos : Pos} {H0 : Hp} {B0 : Addr → Prop} {fr : Bool} {RX : XR} {F : DS → Option XO}
def forXO (i : Nat) (F : DS → Option XO) (g : SS → Option Out) : SS → Option Out := fun δ => (F (allV δ)).bind fun o => match o with
  | .val (.lst ds) => forD i g ds δ
  | .exc c => some (.ex c δ)
  | _ => none
end
end L2

/-! ### E63: a def that takes over its second argument; return [x] -/
namespace L2
open PySem PySem.Spec PyProof.Rows
section
variable {P : Program} {w : World} {K : PySem.W.Frag} {mg : Str → Option Value} {base : Heap}
end
def dCallM2 (F : List D → Option D) (f0 f1 : DE) (fl : List DE) : DE := fun δ => (f0 δ).bind fun a => (f1 δ).bind fun b => (dArgs fl δ).bind fun cs => F (a :: b :: cs)
section
variable {X : Cx} {k : Nat} {x : Str} {p pos : Pos} {e e' : Expr} {es : List Expr}
variable {H0 : Hp} {B0 : Addr → Prop} {RX : XR} {a : Expr} {pos' : Pos}
def ret1 (i : Nat) : SS → Option Out := fun δ => (ownV δ i).map fun d => .rt (.lst [d])
end
end L2

/-! ### E64: x.append(y) where y owns its list and is not read again ahead of its next assignment; written lists of lists of ints -/
namespace L2
open PySem PySem.Spec PyProof.Rows
section
variable {K : PySem.W.Frag} {H0 H : Hp} {B0 : Addr → Prop} {σ : St} {δ : SS} {R : Nat → List Addr}
def givS (i j : Nat) (d : D) (δ : SS) : SS := ((dropBs i (dropBs j δ)).set j none).set i (some (.ow d))
end
section
variable {X : Cx} {H0 : Hp} {B0 : Addr → Prop} {fr : Bool} {RX : XR} {e : Expr} {pos ap cp : Pos} {x : Str} {px : Pos}
def appO (i j : Nat) : SS → Option Out := fun δ => match δ[j]?, δ[i]? with
  | some (some (.ow d)), some (some (.ow (.lst ds))) => (appF ds [d]).map fun ds' => .nx (givS i j (.lst ds') δ)
  | _, _ => none
end
/-! written lists of lists of ints -/
section
variable {X : Cx} {pos : Pos}
variable {H0 : Hp} {B0 : Addr → Prop} {fr : Bool} {RX : XR}
/-- a statement, a body: as PS and PSs, but never opened while terms are made (a written list is opened far too far) -/
@[irreducible] def PSb (X : Cx) (st : Stmt) (t : TS) : Prop := PS X st t
@[irreducible] def PSsb (X : Cx) (st : List Stmt) (t : TS) : Prop := PSs X st t
end
section
variable {P : Program} {w : World} {K : PySem.W.Frag} {mg : Str → Option Value} {base : Heap}
end
end L2

/-! ### E65: x[k].clear() -/
namespace L2
open PySem PySem.Spec PyProof.Rows
section
variable {X : Cx} {H0 : Hp} {B0 : Addr → Prop} {fr : Bool} {RX : XR} {x : Str} {px p2 ap cp pos : Pos} {ke : Expr} {fk : DE}
end
end L2

/-! ### E66: xs.extend(ys) of a shared ys whose items cannot change; written lists of tuples of ints -/
namespace L2
open PySem PySem.Spec PyProof.Rows
section
variable {X : Cx} {H0 : Hp} {B0 : Addr → Prop} {fr : Bool} {RX : XR} {e : Expr} {f : DE} {pos ap cp : Pos} {x : Str} {px : Pos}
def ext0D (i : Nat) (f : DE) : SS → Option Out := fun δ => (f (allV δ)).bind fun d => (match d, δ[i]? with
  | .lst es, some (some (.ow (.lst ds))) => if imms es = true ∧ ds.length + es.length ≤ sizeLine then some (.nx ((dropBs i δ).set i (some (.ow (.lst (ds ++ es)))))) else none
  | _, _ => none)
end
section
variable {X : Cx} {pos : Pos}
variable {H0 : Hp} {B0 : Addr → Prop} {fr : Bool} {RX : XR}
end
end L2

/-! ### E67: isinstance(e, (A, B)) of an exception -/
namespace L2
open PySem PySem.Spec PyProof.Rows
section
variable {X : Cx} {e : Expr} {f : DE} {y z : Str} {p p2 p3 p4 pos : Pos} {x1 : Nat} {L M1 M2 N : List Str}
end
end L2

/-! ### E68: xs.count(x); xs[k] = a new thing -/
namespace L2
open PySem PySem.Spec PyProof.Rows
section
variable {X : Cx} {o e : Expr} {apos cpos : Pos}
end
section
variable {X : Cx} {H0 : Hp} {B0 : Addr → Prop} {fr : Bool} {RX : XR} {e ke : Expr} {pos : Pos} {x : Str} {px p2 : Pos}
def st0N (i : Nat) (fk fv : DE) : SS → Option Out := fun δ => (fv (allV δ)).bind fun d => (fk (allV δ)).bind fun dk => (match dk, δ[i]? with
  | .int k, some (some (.ow (.lst ds))) => (ixN ds.length k).map fun j => .nx ((dropBs i δ).set i (some (.ow (.lst (ds.set j d)))))
  | _, _ => none)
end
end L2

/-! ### E69: loops that only look, over things that can change -/
namespace L2
open PySem PySem.Spec PyProof.Rows
theorem RepS.set {K : PySem.W.Frag} {H : Hp} {B : Addr → Prop} {σ : St} {δ : DS} {i : Nat} {d : D} {v : V} (h : RepS K H B (σ.set i (some v)) δ) (r : Rep K H B d v) (hi : i < σ.length) : RepS K H B (σ.set i (some v)) (δ.set i (some d)) := by
  refine ⟨by rw [List.length_set]; exact h.len, fun j d' q => ?_⟩
  by_cases hij : i = j
  · subst hij
    rw [List.getElem?_set] at q
    simp only [if_true] at q
    split at q
    · cases q
      exact ⟨v, by rw [List.getElem?_set_self hi], r⟩
    · cases q
  · rw [List.getElem?_set_ne hij] at q
    exact h.get j d' q
section
variable {X : Cx} {H0 : Hp} {B0 : Addr → Prop} {fr : Bool} {RX : XR} {pos : Pos}
end
end L2

/-! ### E70: x = f(.., y): an owned list y of ints is lent frozen, so that the list of ints that comes back is new -/
namespace L2
open PySem PySem.Spec PyProof.Rows
def hdI : List D → Bool
  | .int _ :: _ => true
  | _ => false
section
variable {K : PySem.W.Frag} {H : Hp} {B : Addr → Prop} {m : Addr} {xs : List V} {o : Obj}
end
section
variable {X : Cx} {H0 : Hp} {B0 : Addr → Prop} {fr : Bool} {RX : XR} {st : Stmt}
end
end L2

/-! ### E71: x[0].append(n), x.append([]) of a shared list of lists of ints, at the end of the law: what may be of it is forgotten -/
namespace L2
open PySem PySem.Spec PyProof.Rows
mutual
def noJ : D → Bool
  | .lst ds => !hdI ds && noJs ds
  | .non => true
  | .bl _ => true
  | .int _ => true
  | .str _ => true
  | .tup _ => false
  | .scr _ => false
  | .dct _ _ => false
  | .exc _ => false
def noJs : List D → Bool
  | [] => true
  | d :: ds => noJ d && noJs ds
end
section
variable {K : PySem.W.Frag} {H : Hp} {B : Addr → Prop} {m : Addr} {xs : List V}
mutual
theorem Rep.off (hm : H m = some (.lst xs)) (hx : ∀ ds, hdI ds = false → noJs ds = true → Reps K H B ds xs → False) : ∀ (d : D) {v : V}, noJ d = true → Rep K H B d v → Rep K H (fun a => B a ∨ a = m) d v
  | .non, _, _, h => h
  | .bl _, _, _, h => h
  | .int _, _, _, h => h
  | .str _, _, _, h => h
  | .tup _, _, n, _ => by unfold noJ at n; cases n
  | .scr _, _, n, _ => by unfold noJ at n; cases n
  | .dct _ _, _, n, _ => by unfold noJ at n; cases n
  | .exc _, _, n, _ => by unfold noJ at n; cases n
  | .lst ds, _, n, h => by
    unfold noJ at n
    unfold Rep at h ⊢
    obtain ⟨a, ys, e, nb, ha, r⟩ := h
    obtain ⟨n1, n2⟩ := Bool.and_eq_true_iff.mp n
    refine ⟨a, ys, e, fun z => ?_, ha, Reps.off hm hx ds n2 r⟩
    rcases z with z | z
    · exact nb z
    · rw [z, hm] at ha
      cases ha
      exact hx ds (by simpa using n1) n2 r
theorem Reps.off (hm : H m = some (.lst xs)) (hx : ∀ ds, hdI ds = false → noJs ds = true → Reps K H B ds xs → False) : ∀ (ds : List D) {vs : List V}, noJs ds = true → Reps K H B ds vs → Reps K H (fun a => B a ∨ a = m) ds vs
  | [], _, _, h => h
  | d :: ds, _, n, h => by
    unfold noJs at n
    unfold Reps at h ⊢
    obtain ⟨x, r, e, rd, rs⟩ := h
    obtain ⟨n1, n2⟩ := Bool.and_eq_true_iff.mp n
    exact ⟨x, r, e, Rep.off hm hx d n1 rd, Reps.off hm hx ds n2 rs⟩
end
end
def keepJ : Option SD → Option SD
  | some (.sh d) => if noJ d = true then some (.sh d) else none
  | some (.ow d) => some (.ow d)
  | _ => none
theorem keepJ_sh {o : Option SD} {d : D} (h : keepJ o = some (.sh d)) : o = some (.sh d) ∧ noJ d = true := by
  unfold keepJ at h
  split at h
  · split at h
    · rename_i z; cases h; exact ⟨rfl, z⟩
    · cases h
  · cases h
  · cases h
theorem keepJ_bo {o : Option SD} {r : Nat} {d : D} (h : keepJ o = some (.bo r d)) : False := by
  unfold keepJ at h
  split at h
  · split at h <;> cases h
  · cases h
  · cases h
section
variable {K : PySem.W.Frag} {H0 H H' : Hp} {B0 : Addr → Prop} {σ : St} {δ : SS} {R : Nat → List Addr}
/-- a cell that is nobody's own is written -/
theorem RS.wr {m : Addr} {xs ys : List V} (h : RS K H0 B0 H σ δ R) (hO : ∀ a xs, H0 a ≠ some (.lst xs)) (hk : ∀ x ∈ δ, keepJ x = x) (hm : H m = some (.lst xs)) (nR : ∀ r, m ∉ R r)
    (hx : ∀ B ds, hdI ds = false → noJs ds = true → Reps K H B ds xs → False) : RS K H0 B0 (upd H m (.lst ys)) σ δ R := by
  have mu : Mut (H m) := by rw [hm]; exact trivial
  have nm : ∀ r a, a ∈ R r → a ≠ m := fun r a z w => nR r (w ▸ z)
  refine ⟨fun a u q => ?_, h.inB, h.len, h.new, fun r a z => ?_, h.disj, fun i d q => ?_, fun i r d q => ?_, fun i d q => ?_⟩
  · have ne : a ≠ m := fun w => by
      have := h.keep a u q
      rw [w, hm] at this
      cases this
      exact hO a xs q
    rw [upd_ne ne]
    exact h.keep a u q
  · rw [upd_ne (nm r a z)]
    exact h.held r a z
  · obtain ⟨v, e, r⟩ := h.sh i d q
    have n := (keepJ_sh (hk _ (List.mem_of_getElem? q))).2
    exact ⟨v, e, (Rep.keep (Keep.upd (.inr rfl) mu) d (Rep.off hm (hx _) d n r)).anti fun a z => .inl z⟩
  · exact (keepJ_bo (hk _ (List.mem_of_getElem? q))).elim
  · obtain ⟨v, e, t, nd⟩ := h.ow i d q
    refine ⟨v, e, Tree.keep (Keep.upd (K := K) (B := fun x => x = m) rfl mu).i d t fun a ha o z => ?_, nd⟩
    rw [upd_ne (nm i a ha)]
    exact z
end
section
variable {X : Cx} {H0 : Hp} {B0 : Addr → Prop} {fr : Bool} {RX : XR} {st1 st2 : Stmt} {sts : List Stmt} {f : DE} {z : Int}
end
end L2

/-! ### E72: the law's def where nothing but the script is there at the start -/
namespace L2
open PySem PySem.Spec PyProof.Rows
section
variable {P : Program} {w : World} {K : PySem.W.Frag} {mg : Str → Option Value} {base : Heap}
end
section
variable {X : Cx} {e : Expr} {pos ap cp p2 : Pos} {x : Str} {px : Pos} {f : DE} {z : Int} {ke : Expr}
end
end L2

/-! ### E73: min of a list of ints, frozen or not -/
namespace L2
open PySem PySem.Spec PyProof.Rows
section
variable {X : Cx}
variable {e : Expr} {f : DE} {p pos : Pos}
end
end L2

/-! ### E74: xs.append(ys.pop(0)) of two owned lists of ints -/
namespace L2
open PySem PySem.Spec PyProof.Rows
section
variable {X : Cx} {H0 : Hp} {B0 : Addr → Prop} {fr : Bool} {RX : XR} {e : Expr} {pos ap cp ap2 cp2 : Pos} {x y : Str} {px py : Pos}
end
end L2

/-! ### E75: zip of two sequences, its pairs taken apart at once -/
namespace L2
open PySem PySem.Spec PyProof.Rows
section
variable {prog : Program} {w : World} {A : Around} {E : Value → Shared → Prop} {s : Shared} {it t : Addr} {i : Nat} {its : Array Value} {Q : Fin → Shared → Prop} {o ol : Obj} {n : Nat} {x : Value}
/-- a step of a tuple's iterator, by the walker -/
theorem tup_nx (ho : s.heap.get? it = some o) (hd : o.data = .fields #[.ref t, .int i 0]) (hl : s.heap.get? t = some ol) (hdl : ol.data = .seq its n) (hx : its[i]? = some x)
    (k : Q (.done (.ret x)) { s with heap := s.heap.update it (Obj.mapFields (·.setIfInBounds 1 (rawInt ((i : Int) + 1)))) }) : wpAny (model prog w) A (Builtin.«tuple_iterator.__next__» ⟨[.ref it], []⟩) Q E s := by
  obtain ⟨hp, g, d, tk, os⟩ := s
  obtain ⟨c, dd, dt, sl⟩ := o
  obtain ⟨c2, dd2, dt2, sl2⟩ := ol
  cases hd
  cases hdl
  have hx' : its[((i : Nat) : Int).toNat]? = some x := hx
  wp_walk
  rw [hx']
  wp_walk
  exact k
theorem tup_end (hh : A.handled = none) (ho : s.heap.get? it = some o) (hd : o.data = .fields #[.ref t, .int i 0]) (hl : s.heap.get? t = some ol) (hdl : ol.data = .seq its n) (hx : its[i]? = none)
    (k : ∀ h' e, Heap.ExtBut it s.heap h' → (∃ o, h'.get? e = some o ∧ o.cls = .type "StopIteration") → E (.ref e) { s with heap := h' }) : wpAny (model prog w) A (Builtin.«tuple_iterator.__next__» ⟨[.ref it], []⟩) Q E s := by
  obtain ⟨hp, g, d, tk, os⟩ := s
  obtain ⟨c, dd, dt, sl⟩ := o
  obtain ⟨c2, dd2, dt2, sl2⟩ := ol
  cases hd
  cases hdl
  have hx' : its[((i : Nat) : Int).toNat]? = none := hx
  wp_walk
  rw [hx']
  wp_walk
  unfold raiseNew
  wp_walk
  exact k _ _ (((Heap.SameBut.update ..).extBut.push _).push _) ⟨_, Heap.get?_push_size _ rfl, rfl⟩
/-- the next of what is at it is x, and S holds behind it; or there is none -/
def Gives (prog : Program) (w : World) (A : Around) (it : Addr) (s : Shared) (x : Value) (S : Heap → Prop) : Prop :=
  ∀ (Q : Value → Shared → Prop) (E : Value → Shared → Prop), (∀ h', S h' → Heap.SameBut it s.heap h' → Q x { s with heap := h' }) → wpAny (model prog w) A (Builtin.SmallTypes.nextOf (.ref it)) Q E s
def Stops (prog : Program) (w : World) (A : Around) (it : Addr) (s : Shared) : Prop :=
  ∀ (Q : Value → Shared → Prop) (E : Value → Shared → Prop), (∀ h' e, Heap.ExtBut it s.heap h' → (∃ o, h'.get? e = some o ∧ o.cls = .type "StopIteration") → E (.ref e) { s with heap := h' }) → wpAny (model prog w) A (Builtin.SmallTypes.nextOf (.ref it)) Q E s
theorem gives_list {l : Addr} (hi : s.heap.IsListIter it l i) (hl : s.heap.IsList l its) (hx : its[i]? = some x) : Gives prog w A it s x fun h => h.IsListIter it l (i + 1) := fun _ _ k => wpAny_nextOf_list_item hi hl hx k
theorem ends_list {l : Addr} (hh : A.handled = none) (hi : s.heap.IsListIter it l i) (hl : s.heap.IsList l its) (hx : its[i]? = none) : Stops prog w A it s := fun _ _ k => wpAny_nextOf_list_end hh hi hl hx k
theorem gives_tup (hi : s.heap.IsTupleIter it t i) (hl : s.heap.IsTuple t its) (hx : its[i]? = some x) : Gives prog w A it s x fun h => h.IsTupleIter it t (i + 1) := fun Q E k => by
  obtain ⟨o, ho, hc, hd⟩ := id hi
  obtain ⟨ol, hol, _, n, hdl⟩ := hl
  exact wpAny_bind (wpAny_callSpecial?_slot (name := Str.ofString "__next__") hi.typeIs F.slot_tuple_iterator_next (wpAny_call_entry F.slot_tuple_iterator_next hi.typeIs F.entry_tuple_iterator_next
    (tup_nx ho hd hol hdl hx ⟨x, rfl, wpAny_pure (k _ ⟨_, Heap.get?_update_self _ ho (Obj.isFreed_of_fields (Obj.data_mapFields hd _)), (Obj.cls_mapFields ..).trans hc, (Obj.data_mapFields hd _).trans (by simp [rawInt])⟩ (Heap.SameBut.update ..))⟩) (F.args_tuple_iterator_next_1 _)))
theorem ends_tup (hh : A.handled = none) (hi : s.heap.IsTupleIter it t i) (hl : s.heap.IsTuple t its) (hx : its[i]? = none) : Stops prog w A it s := fun Q E k => by
  obtain ⟨o, ho, hc, hd⟩ := id hi
  obtain ⟨ol, hol, _, n, hdl⟩ := hl
  exact wpAny_bind (wpAny_callSpecial?_slot (name := Str.ofString "__next__") hi.typeIs F.slot_tuple_iterator_next (wpAny_call_entry F.slot_tuple_iterator_next hi.typeIs F.entry_tuple_iterator_next
    (tup_end hh ho hd hol hdl hx k) (F.args_tuple_iterator_next_1 _)))
end
section
variable {prog : Program} {w : World} {A : Around} {E : Value → Shared → Prop} {s : Shared} {z TI TO i1 i2 : Addr} {a b : Value}
/-- what is not one of these stays -/
def Stay (xs : List Addr) (h h' : Heap) : Prop := ∀ c o, c ∉ xs → h.get? c = some o → h'.get? c = some o
theorem Stay.but {c : Addr} {xs : List Addr} {h h1 h2 : Heap} (k : Stay xs h h1) (e : Heap.ExtBut c h1 h2) (hc : c ∈ xs) : Stay xs h h2 := fun b o hb q => e b o (fun z => hb (z ▸ hc)) (k b o hb q)
theorem Stay.one {c : Addr} {xs : List Addr} {h h1 : Heap} (e : Heap.ExtBut c h h1) (hc : c ∈ xs) : Stay xs h h1 := fun b o hb q => e b o (fun z => hb (z ▸ hc)) q
theorem Stay.wide {xs ys : List Addr} {h h1 : Heap} (k : Stay xs h h1) (e : ∀ c ∈ xs, c ∈ ys) : Stay ys h h1 := fun b o hb q => k b o (fun z => hb (e b z)) q

set_option maxHeartbeats 4000000 in
theorem zip_nx {x y : Value} {S1 S2 : Heap → Prop} {Q : Value → Shared → Prop} (nd : [z, TI, TO, i1, i2].Nodup) (hz : IsZip s.heap z TI TO .none) (hI : IsPair s.heap TI (.ref i1) (.ref i2)) (hO : IsPair s.heap TO a b)
    (g1 : ∀ h, Stay [z] s.heap h → Gives prog w A i1 { s with heap := h } x S1) (g2 : ∀ h, Stay [z, i1, TO] s.heap h → Gives prog w A i2 { s with heap := h } y S2)
    (f1 : ∀ h h', S1 h → (∀ o, h.get? i1 = some o → h'.get? i1 = some o) → S1 h') (f2 : ∀ h h', S2 h → (∀ o, h.get? i2 = some o → h'.get? i2 = some o) → S2 h')
    (k : ∀ h', IsZip h' z TI TO (rawInt s.heap.objs.size) → IsPair h' TO x y → S1 h' → S2 h' → IsPair h' s.heap.objs.size x y → Stay [z, TO, i1, i2] s.heap h' → Q (.ref s.heap.objs.size) { s with heap := h' }) :
    wpAny (model prog w) A (Builtin.«zip.__next__» ⟨[.ref z], []⟩) (fun f s' => ∃ v, f = .done (.ret v) ∧ Q v s') E s := by
  simp only [List.nodup_cons, List.mem_cons, List.not_mem_nil, or_false, not_or] at nd
  obtain ⟨⟨zI, zO, z1, z2⟩, ⟨IO, I1, I2⟩, ⟨O1, O2⟩, ⟨h12, _⟩⟩ := nd
  obtain ⟨hp, g, d, tk, os⟩ := s
  have hz : hp.get? z = some ⟨.type "zip", none, .fields #[.none, .bool false, .bool false, .ref TI, .ref TO], #[]⟩ := hz
  have hI : hp.get? TI = some ⟨.type "tuple", none, .seq #[.ref i1, .ref i2] 0, #[]⟩ := hI
  have hO : hp.get? TO = some ⟨.type "tuple", none, .seq #[a, b] 0, #[]⟩ := hO
  have G1 : ∀ (h : Heap) (Q : Value → Shared → Prop) (E : Value → Shared → Prop), (∀ h', S1 h' → Heap.SameBut i1 h h' → Q x ⟨h', g, d, tk, os⟩) → Stay [z] hp h → wpAny (model prog w) A (Builtin.SmallTypes.nextOf (.ref i1)) Q E ⟨h, g, d, tk, os⟩ := fun h Q E k st => g1 h st Q E k
  have G2 : ∀ (h : Heap) (Q : Value → Shared → Prop) (E : Value → Shared → Prop), (∀ h', S2 h' → Heap.SameBut i2 h h' → Q y ⟨h', g, d, tk, os⟩) → Stay [z, i1, TO] hp h → wpAny (model prog w) A (Builtin.SmallTypes.nextOf (.ref i2)) Q E ⟨h, g, d, tk, os⟩ := fun h Q E k st => g2 h st Q E k
  clear g1 g2
  wp_walk using wpAny_onRaise, G1
  · intro hb t1 sb
    have za : (hp.update z (Obj.mapFields fun x => x.setIfInBounds 0 Value.ellipsis)).get? z = some ⟨.type "zip", none, .fields #[.ellipsis, .bool false, .bool false, .ref TI, .ref TO], #[]⟩ := Heap.get?_update_self _ hz rfl
    have sa : Heap.SameBut z hp (hp.update z (Obj.mapFields fun x => x.setIfInBounds 0 Value.ellipsis)) := Heap.SameBut.update ..
    generalize hp.update z (Obj.mapFields fun x => x.setIfInBounds 0 Value.ellipsis) = ha at za sa sb
    have zb : hb.get? z = some ⟨.type "zip", none, .fields #[.ellipsis, .bool false, .bool false, .ref TI, .ref TO], #[]⟩ := (sb.2 z z1).trans za
    have ob : hb.get? TO = some ⟨.type "tuple", none, .seq #[a, b] 0, #[]⟩ := (sb.2 TO O1).trans ((sa.2 TO (Ne.symm zO)).trans hO)
    have stb : Stay [z, i1, TO] hp hb := (Stay.one sa.extBut (by simp)).but sb.extBut (by simp)
    wp_walk using wpAny_onRaise, G2
    · intro hd t2 sd
      have oc : (hb.update TO (Obj.mapSeq fun v => v.setIfInBounds 0 x)).get? TO = some ⟨.type "tuple", none, .seq #[x, b] 0, #[]⟩ := Heap.get?_update_self _ ob rfl
      have sc : Heap.SameBut TO hb (hb.update TO (Obj.mapSeq fun v => v.setIfInBounds 0 x)) := Heap.SameBut.update ..
      generalize hb.update TO (Obj.mapSeq fun v => v.setIfInBounds 0 x) = hc at oc sc sd
      have zd : hd.get? z = some ⟨.type "zip", none, .fields #[.ellipsis, .bool false, .bool false, .ref TI, .ref TO], #[]⟩ := (sd.2 z z2).trans ((sc.2 z zO).trans zb)
      have od : hd.get? TO = some ⟨.type "tuple", none, .seq #[x, b] 0, #[]⟩ := (sd.2 TO O2).trans oc
      have std : Stay [z, TO, i1, i2] hp hd := ((stb.wide (by simp)).but sc.extBut (by simp)).but sd.extBut (by simp)
      have t1d : S1 hd := f1 _ _ t1 fun o q => (sd.2 i1 h12).trans ((sc.2 i1 (Ne.symm O1)).trans q)
      have szd : hd.objs.size = hp.objs.size := by rw [sd.1, sc.1, sb.1, sa.1]
      wp_walk
      have oe : (hd.update TO (Obj.mapSeq fun v => v.setIfInBounds (0 + 1) y)).get? TO = some ⟨.type "tuple", none, .seq #[x, y] 0, #[]⟩ := Heap.get?_update_self _ od rfl
      have se : Heap.SameBut TO hd (hd.update TO (Obj.mapSeq fun v => v.setIfInBounds (0 + 1) y)) := Heap.SameBut.update ..
      generalize hd.update TO (Obj.mapSeq fun v => v.setIfInBounds (0 + 1) y) = he at oe se
      have sze : he.objs.size = hp.objs.size := by rw [se.1, szd]
      have ze : (he.push ⟨.type "tuple", none, .seq #[x, y] 0, #[]⟩).get? z = some ⟨.type "zip", none, .fields #[.ellipsis, .bool false, .bool false, .ref TI, .ref TO], #[]⟩ := Heap.get?_push_of_some _ ((se.2 z zO).trans zd)
      have pe : (he.push ⟨.type "tuple", none, .seq #[x, y] 0, #[]⟩).get? he.objs.size = some ⟨.type "tuple", none, .seq #[x, y] 0, #[]⟩ := Heap.get?_push_size _ rfl
      have hne : he.objs.size ≠ z := by rw [sze]; exact Nat.ne_of_gt (Heap.lt_size hz)
      have zf := Heap.get?_update_self (Obj.mapFields fun v => v.setIfInBounds 0 (rawInt he.objs.size)) ze rfl
      have zg := Heap.get?_update_self (Obj.mapFields fun v => v.setIfInBounds 1 (.bool false)) zf rfl
      have sg : ∀ c o, c ≠ z → he.get? c = some o → (((he.push ⟨.type "tuple", none, .seq #[x, y] 0, #[]⟩).update z (Obj.mapFields fun v => v.setIfInBounds 0 (rawInt he.objs.size))).update z (Obj.mapFields fun v => v.setIfInBounds 1 (.bool false))).get? c = some o := fun c o hc q =>
        (Heap.SameBut.update ..).extBut _ _ hc ((Heap.SameBut.update ..).extBut _ _ hc (Heap.get?_push_of_some _ q))
      refine ⟨_, rfl, ?_⟩
      have pg : (((he.push ⟨.type "tuple", none, .seq #[x, y] 0, #[]⟩).update z (Obj.mapFields fun v => v.setIfInBounds 0 (rawInt he.objs.size))).update z (Obj.mapFields fun v => v.setIfInBounds 1 (.bool false))).get? he.objs.size = some ⟨.type "tuple", none, .seq #[x, y] 0, #[]⟩ :=
        (Heap.SameBut.update ..).extBut _ _ hne ((Heap.SameBut.update ..).extBut _ _ hne pe)
      have ste : Stay [z, TO, i1, i2] hp he := std.but se.extBut (by simp)
      have k1 := k _ (by rw [← sze]; exact zg) (sg TO _ (Ne.symm zO) oe) (f1 _ _ t1d fun o q => sg i1 o (Ne.symm z1) ((se.2 i1 (Ne.symm O1)).trans q)) (f2 _ _ t2 fun o q => sg i2 o (Ne.symm z2) ((se.2 i2 (Ne.symm O2)).trans q)) (by rw [← sze]; exact pg)
        fun c o hc q => sg c o (fun e => hc (by simp [e])) (ste c o hc q)
      rw [← sze] at k1
      exact k1
    · exact stb.but (Heap.SameBut.update ..).extBut (by simp)
  · exact Stay.one (Heap.SameBut.update ..).extBut (by simp)
set_option maxHeartbeats 4000000 in
theorem zip_e1 {Q : Fin → Shared → Prop} (nd : [z, TI, TO, i1, i2].Nodup) (hz : IsZip s.heap z TI TO .none) (hI : IsPair s.heap TI (.ref i1) (.ref i2)) (hO : IsPair s.heap TO a b)
    (g1 : ∀ h, Stay [z] s.heap h → Stops prog w A i1 { s with heap := h })
    (k : ∀ h' e, Stay [z, TO, i1, i2] s.heap h' → (∃ o, h'.get? e = some o ∧ o.cls = .type "StopIteration") → E (.ref e) { s with heap := h' }) :
    wpAny (model prog w) A (Builtin.«zip.__next__» ⟨[.ref z], []⟩) Q E s := by
  simp only [List.nodup_cons, List.mem_cons, List.not_mem_nil, or_false, not_or] at nd
  obtain ⟨⟨zI, zO, z1, z2⟩, ⟨IO, I1, I2⟩, ⟨O1, O2⟩, ⟨h12, _⟩⟩ := nd
  obtain ⟨hp, g, d, tk, os⟩ := s
  have hz : hp.get? z = some ⟨.type "zip", none, .fields #[.none, .bool false, .bool false, .ref TI, .ref TO], #[]⟩ := hz
  have hI : hp.get? TI = some ⟨.type "tuple", none, .seq #[.ref i1, .ref i2] 0, #[]⟩ := hI
  have hO : hp.get? TO = some ⟨.type "tuple", none, .seq #[a, b] 0, #[]⟩ := hO
  have G1 : ∀ (h : Heap) (Q : Value → Shared → Prop) (E : Value → Shared → Prop), (∀ h' e, Heap.ExtBut i1 h h' → (∃ o, h'.get? e = some o ∧ o.cls = .type "StopIteration") → E (.ref e) ⟨h', g, d, tk, os⟩) → Stay [z] hp h → wpAny (model prog w) A (Builtin.SmallTypes.nextOf (.ref i1)) Q E ⟨h, g, d, tk, os⟩ := fun h Q E k st => g1 h st Q E k
  clear g1
  wp_walk using wpAny_onRaise, G1
  · intro hb e sb he
    have za : (hp.update z (Obj.mapFields fun x => x.setIfInBounds 0 Value.ellipsis)).get? z = some ⟨.type "zip", none, .fields #[.ellipsis, .bool false, .bool false, .ref TI, .ref TO], #[]⟩ := Heap.get?_update_self _ hz rfl
    have sa : Heap.SameBut z hp (hp.update z (Obj.mapFields fun x => x.setIfInBounds 0 Value.ellipsis)) := Heap.SameBut.update ..
    generalize hp.update z (Obj.mapFields fun x => x.setIfInBounds 0 Value.ellipsis) = ha at za sa sb
    have zb : hb.get? z = some ⟨.type "zip", none, .fields #[.ellipsis, .bool false, .bool false, .ref TI, .ref TO], #[]⟩ := sb z _ z1 za
    have stb : Stay [z, TO, i1, i2] hp hb := (Stay.one sa.extBut (by simp)).but sb (by simp)
    obtain ⟨oe, ee, ec⟩ := he
    have ez : e ≠ z := fun q => by subst q; rw [zb] at ee; cases ee; simp at ec
    wp_walk
    exact k _ _ (stb.but (Heap.SameBut.update ..).extBut (by simp)) ⟨oe, (Heap.SameBut.update ..).extBut _ _ ez ee, ec⟩
  · exact Stay.one (Heap.SameBut.update ..).extBut (by simp)
set_option maxHeartbeats 4000000 in
theorem zip_e2 {x : Value} {S1 : Heap → Prop} {Q : Fin → Shared → Prop} (nd : [z, TI, TO, i1, i2].Nodup) (hz : IsZip s.heap z TI TO .none) (hI : IsPair s.heap TI (.ref i1) (.ref i2)) (hO : IsPair s.heap TO a b)
    (g1 : ∀ h, Stay [z] s.heap h → Gives prog w A i1 { s with heap := h } x S1) (g2 : ∀ h, Stay [z, i1, TO] s.heap h → Stops prog w A i2 { s with heap := h })
    (k : ∀ h' e, Stay [z, TO, i1, i2] s.heap h' → (∃ o, h'.get? e = some o ∧ o.cls = .type "StopIteration") → E (.ref e) { s with heap := h' }) :
    wpAny (model prog w) A (Builtin.«zip.__next__» ⟨[.ref z], []⟩) Q E s := by
  simp only [List.nodup_cons, List.mem_cons, List.not_mem_nil, or_false, not_or] at nd
  obtain ⟨⟨zI, zO, z1, z2⟩, ⟨IO, I1, I2⟩, ⟨O1, O2⟩, ⟨h12, _⟩⟩ := nd
  obtain ⟨hp, g, d, tk, os⟩ := s
  have hz : hp.get? z = some ⟨.type "zip", none, .fields #[.none, .bool false, .bool false, .ref TI, .ref TO], #[]⟩ := hz
  have hI : hp.get? TI = some ⟨.type "tuple", none, .seq #[.ref i1, .ref i2] 0, #[]⟩ := hI
  have hO : hp.get? TO = some ⟨.type "tuple", none, .seq #[a, b] 0, #[]⟩ := hO
  have G1 : ∀ (h : Heap) (Q : Value → Shared → Prop) (E : Value → Shared → Prop), (∀ h', S1 h' → Heap.SameBut i1 h h' → Q x ⟨h', g, d, tk, os⟩) → Stay [z] hp h → wpAny (model prog w) A (Builtin.SmallTypes.nextOf (.ref i1)) Q E ⟨h, g, d, tk, os⟩ := fun h Q E k st => g1 h st Q E k
  have G2 : ∀ (h : Heap) (Q : Value → Shared → Prop) (E : Value → Shared → Prop), (∀ h' e, Heap.ExtBut i2 h h' → (∃ o, h'.get? e = some o ∧ o.cls = .type "StopIteration") → E (.ref e) ⟨h', g, d, tk, os⟩) → Stay [z, i1, TO] hp h → wpAny (model prog w) A (Builtin.SmallTypes.nextOf (.ref i2)) Q E ⟨h, g, d, tk, os⟩ := fun h Q E k st => g2 h st Q E k
  clear g1 g2
  wp_walk using wpAny_onRaise, G1
  · intro hb t1 sb
    have za : (hp.update z (Obj.mapFields fun x => x.setIfInBounds 0 Value.ellipsis)).get? z = some ⟨.type "zip", none, .fields #[.ellipsis, .bool false, .bool false, .ref TI, .ref TO], #[]⟩ := Heap.get?_update_self _ hz rfl
    have sa : Heap.SameBut z hp (hp.update z (Obj.mapFields fun x => x.setIfInBounds 0 Value.ellipsis)) := Heap.SameBut.update ..
    generalize hp.update z (Obj.mapFields fun x => x.setIfInBounds 0 Value.ellipsis) = ha at za sa sb
    have zb : hb.get? z = some ⟨.type "zip", none, .fields #[.ellipsis, .bool false, .bool false, .ref TI, .ref TO], #[]⟩ := (sb.2 z z1).trans za
    have ob : hb.get? TO = some ⟨.type "tuple", none, .seq #[a, b] 0, #[]⟩ := (sb.2 TO O1).trans ((sa.2 TO (Ne.symm zO)).trans hO)
    have stb : Stay [z, i1, TO] hp hb := (Stay.one sa.extBut (by simp)).but sb.extBut (by simp)
    wp_walk using wpAny_onRaise, G2
    · intro hd e sd he
      have sc : Heap.SameBut TO hb (hb.update TO (Obj.mapSeq fun v => v.setIfInBounds 0 x)) := Heap.SameBut.update ..
      generalize hb.update TO (Obj.mapSeq fun v => v.setIfInBounds 0 x) = hc at sc sd
      have zd : hd.get? z = some ⟨.type "zip", none, .fields #[.ellipsis, .bool false, .bool false, .ref TI, .ref TO], #[]⟩ := sd z _ z2 ((sc.2 z zO).trans zb)
      have std : Stay [z, TO, i1, i2] hp hd := ((stb.wide (by simp)).but sc.extBut (by simp)).but sd (by simp)
      obtain ⟨oe, ee, ec⟩ := he
      have ez : e ≠ z := fun q => by subst q; rw [zd] at ee; cases ee; simp at ec
      wp_walk
      exact k _ _ (std.but (Heap.SameBut.update ..).extBut (by simp)) ⟨oe, (Heap.SameBut.update ..).extBut _ _ ez ee, ec⟩
    · exact stb.but (Heap.SameBut.update ..).extBut (by simp)
  · exact Stay.one (Heap.SameBut.update ..).extBut (by simp)
end
section
variable {prog : Program} {w : World} {A : Around} {E : Value → Shared → Prop} {s : Shared} {z TI TO i1 i2 : Addr} {a b : Value}
theorem pnx_zip {x y : Value} {S1 S2 : Heap → Prop} {Q : Option Value → Shared → Prop} (nd : [z, TI, TO, i1, i2].Nodup) (hz : IsZip s.heap z TI TO .none) (hI : IsPair s.heap TI (.ref i1) (.ref i2)) (hO : IsPair s.heap TO a b)
    (g1 : ∀ A h, Stay [z] s.heap h → Gives prog w A i1 { s with heap := h } x S1) (g2 : ∀ A h, Stay [z, i1, TO] s.heap h → Gives prog w A i2 { s with heap := h } y S2)
    (f1 : ∀ h h', S1 h → (∀ o, h.get? i1 = some o → h'.get? i1 = some o) → S1 h') (f2 : ∀ h h', S2 h → (∀ o, h.get? i2 = some o → h'.get? i2 = some o) → S2 h')
    (k : ∀ h', IsZip h' z TI TO (rawInt s.heap.objs.size) → IsPair h' TO x y → S1 h' → S2 h' → IsPair h' s.heap.objs.size x y → Stay [z, TO, i1, i2] s.heap h' → Q (some (.ref s.heap.objs.size)) { s with heap := h' }) :
    wpAny (model prog w) A (pyNext (.ref z)) Q E s :=
  have hT : s.TypeIs (.ref z) "zip" := ⟨_, hz, rfl⟩
  wpAny_bind (wpAny_attempt (wpAny_callSpecial?_slot (name := Str.ofString "__next__") hT F.slot_zip_next (wpAny_call_entry F.slot_zip_next hT F.entry_zip_next
    (zip_nx nd hz hI hO (g1 _) (g2 _) f1 f2 fun h' a1 a2 a3 a4 a5 a6 => wpAny_pure (k h' a1 a2 a3 a4 a5 a6)) (F.args_zip_next_1 _))))
/-- one of the two has no more -/
theorem pne_zip {Q : Option Value → Shared → Prop} (hh : A.handled = none) (nd : [z, TI, TO, i1, i2].Nodup) (hz : IsZip s.heap z TI TO .none) (hI : IsPair s.heap TI (.ref i1) (.ref i2)) (hO : IsPair s.heap TO a b)
    (g : (∀ A : Around, A.handled = none → ∀ h, Stay [z] s.heap h → Stops prog w A i1 { s with heap := h }) ∨ ((∃ x S1, ∀ A h, Stay [z] s.heap h → Gives prog w A i1 { s with heap := h } x S1) ∧ ∀ A : Around, A.handled = none → ∀ h, Stay [z, i1, TO] s.heap h → Stops prog w A i2 { s with heap := h }))
    (k : ∀ h', Stay [z, TO, i1, i2] s.heap h' → Q none { s with heap := h' }) : wpAny (model prog w) A (pyNext (.ref z)) Q E s := by
  have hT : s.TypeIs (.ref z) "zip" := ⟨_, hz, rfl⟩
  have fin : ∀ h' e, Stay [z, TO, i1, i2] s.heap h' → (∃ o, h'.get? e = some o ∧ o.cls = .type "StopIteration") → wpAny (model prog w) A (do if ← isInstance (.ref e) (.type "StopIteration") then pure none else throw (.ref e)) Q E { s with heap := h' } := fun h' e st ⟨o, ho, hc⟩ =>
    wpAny_bind (wpAny_isInstance (T := "StopIteration") (b := true) ⟨o, ho, hc⟩ isSubtype_stop (wpAny_pure (k _ st)))
  rcases g with g1 | ⟨⟨x, S1, g1⟩, g2⟩
  · exact wpAny_bind (wpAny_attempt (wpAny_callSpecial?_slot (name := Str.ofString "__next__") hT F.slot_zip_next (wpAny_call_entry F.slot_zip_next hT F.entry_zip_next (zip_e1 nd hz hI hO (g1 _ hh) fin) (F.args_zip_next_1 _))))
  · exact wpAny_bind (wpAny_attempt (wpAny_callSpecial?_slot (name := Str.ofString "__next__") hT F.slot_zip_next (wpAny_call_entry F.slot_zip_next hT F.entry_zip_next (zip_e2 nd hz hI hO (g1 _) (g2 _ hh) fin) (F.args_zip_next_1 _))))
/-! zip(tuple, list) -/
abbrev zt1 (h : Heap) (t : Addr) : Heap := h.push ⟨.type "tuple_iterator", none, .fields #[.ref t, .int 0 0], #[]⟩
abbrev zt2 (h : Heap) (t l : Addr) : Heap := (zt1 h t).push ⟨.type "list_iterator", none, .fields #[.ref l, .int 0 0], #[]⟩
abbrev zt3 (h : Heap) (t l : Addr) : Heap := (zt2 h t l).push ⟨.type "tuple", none, .seq #[.ref h.objs.size, .ref (zt1 h t).objs.size] 0, #[]⟩
abbrev zt4 (h : Heap) (t l : Addr) : Heap := (zt3 h t l).push ⟨.type "tuple", none, .seq #[.none, .none] 0, #[]⟩
abbrev zt5 (h : Heap) (t l : Addr) : Heap := (zt4 h t l).push ⟨.type "zip", none, .fields #[.none, .bool false, .bool false, .ref (zt2 h t l).objs.size, .ref (zt3 h t l).objs.size], #[]⟩
theorem mz_new (t l : Addr) (xs ys : Array Value) : Meets (Builtin.«zip.__new__» ⟨[.type "zip", .ref t, .ref l], []⟩) fun _ R s => s.heap.IsTuple t xs ∧ s.heap.IsList l ys ∧ R (.ok (.ret (.ref (zt4 s.heap t l).objs.size))) { s with heap := zt5 s.heap t l } :=
  .of_wp fun prog w A R s h => by
    obtain ⟨ht, hl, h⟩ := h
    obtain ⟨hp, g, d, tk, os⟩ := s
    have q0 := sub_zip
    have q1 : Heap.IsTuple (Shared.heap ⟨hp, g, d, tk, os⟩) t xs := ht
    have q2 : Heap.IsList (Shared.heap ⟨zt1 hp t, g, d, tk, os⟩) l ys := Heap.IsList.push hl _
    wp_walk using wpAny_pyIter_tuple q1, wpAny_pyIter_list q2
    exact ⟨_, rfl, h⟩
theorem call_zipT {t l : Addr} {xs ys : Array Value} {Q : Value → Shared → Prop} (ht : s.heap.IsTuple t xs) (hl : s.heap.IsList l ys)
    (h : ∀ h', IsZip h' (s.heap.objs.size + 4) (s.heap.objs.size + 2) (s.heap.objs.size + 3) .none → IsPair h' (s.heap.objs.size + 2) (.ref s.heap.objs.size) (.ref (s.heap.objs.size + 1)) → IsPair h' (s.heap.objs.size + 3) .none .none →
      h'.IsTupleIter s.heap.objs.size t 0 → h'.IsListIter (s.heap.objs.size + 1) l 0 → (∀ c o, s.heap.get? c = some o → h'.get? c = some o) → Q (.ref (s.heap.objs.size + 4)) { s with heap := h' }) :
    wpAny (model prog w) A (call (.type "zip") [.ref t, .ref l]) Q E s := by
  refine callType_new F.called_zip (by decide) (F.typeCall_zip_2 _ _) (F.newCall_zip_2 _ _) (fun obj => F.args_object_init_3 obj _ _) F.entry_zip_new (mz_new t l xs ys) ⟨ht, hl, ?_⟩
  have n1 : (zt1 s.heap t).objs.size = s.heap.objs.size + 1 := Heap.size_push ..
  have n2 : (zt2 s.heap t l).objs.size = s.heap.objs.size + 2 := (Heap.size_push ..).trans (by rw [n1])
  have n3 : (zt3 s.heap t l).objs.size = s.heap.objs.size + 3 := (Heap.size_push ..).trans (by rw [n2])
  have n4 : (zt4 s.heap t l).objs.size = s.heap.objs.size + 4 := (Heap.size_push ..).trans (by rw [n3])
  have up1 : ∀ {c o}, s.heap.get? c = some o → (zt1 s.heap t).get? c = some o := fun q => Heap.get?_push_of_some _ q
  have up2 : ∀ {c o}, (zt1 s.heap t).get? c = some o → (zt2 s.heap t l).get? c = some o := fun q => Heap.get?_push_of_some _ q
  have up3 : ∀ {c o}, (zt2 s.heap t l).get? c = some o → (zt3 s.heap t l).get? c = some o := fun q => Heap.get?_push_of_some _ q
  have up4 : ∀ {c o}, (zt3 s.heap t l).get? c = some o → (zt4 s.heap t l).get? c = some o := fun q => Heap.get?_push_of_some _ q
  have up5 : ∀ {c o}, (zt4 s.heap t l).get? c = some o → (zt5 s.heap t l).get? c = some o := fun q => Heap.get?_push_of_some _ q
  have a1 : (zt1 s.heap t).get? s.heap.objs.size = some ⟨.type "tuple_iterator", none, .fields #[.ref t, .int 0 0], #[]⟩ := Heap.get?_push_size _ rfl
  have a2 : (zt2 s.heap t l).get? (s.heap.objs.size + 1) = some ⟨.type "list_iterator", none, .fields #[.ref l, .int 0 0], #[]⟩ := by rw [← n1]; exact Heap.get?_push_size _ rfl
  have a3 : (zt3 s.heap t l).get? (s.heap.objs.size + 2) = some ⟨.type "tuple", none, .seq #[.ref s.heap.objs.size, .ref (s.heap.objs.size + 1)] 0, #[]⟩ := by rw [← n2, ← n1]; exact Heap.get?_push_size _ rfl
  have a4 : (zt4 s.heap t l).get? (s.heap.objs.size + 3) = some ⟨.type "tuple", none, .seq #[.none, .none] 0, #[]⟩ := by rw [← n3]; exact Heap.get?_push_size _ rfl
  have a5 : (zt5 s.heap t l).get? (s.heap.objs.size + 4) = some ⟨.type "zip", none, .fields #[.none, .bool false, .bool false, .ref (s.heap.objs.size + 2), .ref (s.heap.objs.size + 3)], #[]⟩ := by rw [← n4, ← n2, ← n3]; exact Heap.get?_push_size _ rfl
  show _ ∧ _
  rw [n4]
  exact ⟨⟨_, a5, rfl⟩, h _ a5 (up5 (up4 a3)) (up5 a4) ⟨_, up5 (up4 (up3 (up2 a1))), rfl, rfl⟩ ⟨_, up5 (up4 (up3 a2)), rfl, rfl⟩ fun c o q => up5 (up4 (up3 (up2 (up1 q))))⟩
end
end L2

/-! ### E76: zip as what is gone through -/
namespace L2
open PySem PySem.Spec PyProof.Rows
/-! a tuple (true) or a list (false) -/
def SqX (K : PySem.W.Frag) (H : Hp) (tp : Bool) (a : Addr) (xs : List V) : Prop := if tp = true then SqT K H a xs else SqL K H a xs
def SIt (h : Heap) (tp : Bool) (it a : Addr) (i : Nat) : Prop := if tp = true then h.IsTupleIter it a i else h.IsListIter it a i
def SSq (h : Heap) (tp : Bool) (a : Addr) (its : Array Value) : Prop := if tp = true then h.IsTuple a its else h.IsList a its
theorem SIt.obj {h : Heap} {tp : Bool} {it a : Addr} {i : Nat} (x : SIt h tp it a i) : ∃ o, h.get? it = some o ∧ (o.cls = .type "tuple_iterator" ∨ o.cls = .type "list_iterator") ∧ ∃ vs, o.data = .fields vs := by
  cases tp with
  | true => obtain ⟨o, e, c, d⟩ := (show h.IsTupleIter it a i from x); exact ⟨o, e, .inl c, _, d⟩
  | false => obtain ⟨o, e, c, d⟩ := (show h.IsListIter it a i from x); exact ⟨o, e, .inr c, _, d⟩
theorem SSq.obj {h : Heap} {tp : Bool} {a : Addr} {its : Array Value} (x : SSq h tp a its) : ∃ o, h.get? a = some o ∧ (o.cls = .type "tuple" ∨ o.cls = .type "list") := by
  cases tp with
  | true => obtain ⟨o, e, c, _⟩ := (show h.IsTuple a its from x); exact ⟨o, e, .inl c⟩
  | false => obtain ⟨o, e, c, _⟩ := (show h.IsList a its from x); exact ⟨o, e, .inr c⟩
theorem SIt.at {h h' : Heap} {tp : Bool} {it a : Addr} {i : Nat} (x : SIt h tp it a i) (k : ∀ o, h.get? it = some o → h'.get? it = some o) : SIt h' tp it a i := by
  cases tp with
  | true => obtain ⟨o, e, r⟩ := (show h.IsTupleIter it a i from x); exact ⟨o, k o e, r⟩
  | false => obtain ⟨o, e, r⟩ := (show h.IsListIter it a i from x); exact ⟨o, k o e, r⟩
theorem SSq.at {h h' : Heap} {tp : Bool} {a : Addr} {its : Array Value} (x : SSq h tp a its) (k : ∀ o, h.get? a = some o → h'.get? a = some o) : SSq h' tp a its := by
  cases tp with
  | true => obtain ⟨o, e, r⟩ := (show h.IsTuple a its from x); exact ⟨o, k o e, r⟩
  | false => obtain ⟨o, e, r⟩ := (show h.IsList a its from x); exact ⟨o, k o e, r⟩
theorem gives_x {prog : Program} {w : World} {A : Around} {s : Shared} {tp : Bool} {it a : Addr} {i : Nat} {its : Array Value} {x : Value} (hi : SIt s.heap tp it a i) (hl : SSq s.heap tp a its) (hx : its[i]? = some x) : Gives prog w A it s x fun h => SIt h tp it a (i + 1) := by
  cases tp with
  | true => exact gives_tup hi hl hx
  | false => exact gives_list hi hl hx
theorem ends_x {prog : Program} {w : World} {A : Around} {s : Shared} {tp : Bool} {it a : Addr} {i : Nat} {its : Array Value} (hh : A.handled = none) (hi : SIt s.heap tp it a i) (hl : SSq s.heap tp a its) (hx : its[i]? = none) : Stops prog w A it s := by
  cases tp with
  | true => exact ends_tup hh hi hl hx
  | false => exact ends_list hh hi hl hx
section
variable {X : Cx} {pins : List (Addr × Obj)} {σ : St} {H : Hp} {s : Shared} {a : Addr} {xs ys : List V} {tp : Bool}
theorem Inv.seqX (I : Inv X pins σ H s) (h : SqX X.K H tp a xs) : ∃ its : List Value, Vals xs its ∧ SSq s.heap tp a its.toArray := by
  cases tp with
  | true => obtain ⟨its, r, p, _⟩ := I.tuple h; exact ⟨its, r, p⟩
  | false => obtain ⟨its, r, p, _⟩ := I.list h; exact ⟨its, r, p.isList⟩
theorem Inv.seqX_inj (I : Inv X pins σ H s) (h : SqX X.K H tp a xs) (h' : SqX X.K H tp a ys) : xs = ys := by
  cases tp with
  | true => exact I.tuple_inj h h'
  | false => exact I.list_inj h h'
end
/-- the pairs of what is at a and at b, a list -/
def Itz (K : PySem.W.Frag) (tp : Bool) (a b : Addr) : It :=
  ⟨fun i H => ∃ xs ys x y, SqX K H tp a xs ∧ SqL K H b ys ∧ xs[i]? = some x ∧ ys[i]? = some y, fun i H v H' => ∃ p x y, H p = none ∧ v = .ref p ∧ H' = upd H p (.tup [x, y]) ∧ ∀ xs ys, SqX K H tp a xs → SqL K H b ys → xs[i]? = some x ∧ ys[i]? = some y,
    fun i H => ∃ xs ys, SqX K H tp a xs ∧ SqL K H b ys ∧ (xs.length ≤ i ∨ ys.length ≤ i)⟩
/-- where the two of them and the zip's own things stand -/
structure ZipAt (h : Heap) (tp : Bool) (a b z TI TO i1 i2 : Addr) (i : Nat) : Prop where
  zip : IsZip h z TI TO .none
  its : IsPair h TI (.ref i1) (.ref i2)
  out : ∃ u v, IsPair h TO u v
  one : SIt h tp i1 a i
  two : SIt h false i2 b i
theorem turn_zip {P : Program} {w : World} {K : PySem.W.Frag} {elts : List Expr} {x1} {tp : Pos} (tb : Bool) (a b z TI TO i1 i2 : Addr) (nd : [z, TI, TO, i1, i2].Nodup) :
    Turn P w K (.Tuple elts x1 tp) (Itz K tb a b) [z, TI, TO, i1, i2] z (fun i h => ZipAt h tb a b z TI TO i1 i2 i) where
  mem := by simp
  obj := fun i h st c hc => by
    obtain ⟨u, v, ho⟩ := st.out
    obtain ⟨o1, e1, _, vs1, d1⟩ := st.one.obj
    obtain ⟨o2, e2, _, vs2, d2⟩ := st.two.obj
    simp only [List.mem_cons, List.not_mem_nil, or_false] at hc
    rcases hc with rfl | rfl | rfl | rfl | rfl
    · exact ⟨_, st.zip, fun v z => by cases z⟩
    · exact ⟨_, st.its, fun v z => by cases z⟩
    · exact ⟨_, ho, fun v z => by cases z⟩
    · exact ⟨_, e1, fun v z => by rw [d1] at z; cases z⟩
    · exact ⟨_, e2, fun v z => by rw [d2] at z; cases z⟩
  keep := fun i h h' st k => by
    obtain ⟨u, v, ho⟩ := st.out
    exact ⟨k z (by simp) _ st.zip, k TI (by simp) _ st.its, ⟨u, v, k TO (by simp) _ ho⟩, st.one.at fun o q => k i1 (by simp) o q, st.two.at fun o q => k i2 (by simp) o q⟩
  item := by
    intro X hP hw hK hc i pins s σ H E I hf st hg
    subst hP hw hK
    obtain ⟨xs, ys, x, y, hq1, hq2, hx, hy⟩ := hg
    obtain ⟨l1, rv1, p1⟩ := I.seqX hq1
    obtain ⟨l2, rv2, p2, _⟩ := I.list hq2
    have p2 : SSq s.heap false b l2.toArray := p2.isList
    obtain ⟨u, hu, ru⟩ := rv1.get hx
    obtain ⟨v, hv, rv⟩ := rv2.get hy
    obtain ⟨q1, q2, hO⟩ := st.out
    obtain ⟨o1, e1, c1⟩ := p1.obj
    obtain ⟨o2, e2, c2⟩ := p2.obj
    have e2l : o2.cls = .type "list" := by
      obtain ⟨o, e, c, _⟩ := (show s.heap.IsList b l2.toArray from p2)
      rw [e2] at e; cases e; exact c
    have az : a ≠ z := fun q => by rw [q, st.zip] at e1; cases e1; rcases c1 with c | c <;> simp at c
    have bz : b ≠ z := fun q => by rw [q, st.zip] at e2; cases e2; simp at e2l
    have bO : b ≠ TO := fun q => by rw [q, hO] at e2; cases e2; simp at e2l
    have b1 : b ≠ i1 := fun q => by
      obtain ⟨o, e, c, _⟩ := st.one.obj
      rw [q, e] at e2; cases e2; rw [e2l] at c; rcases c with c | c <;> simp at c
    have nd' := nd
    simp only [List.nodup_cons, List.mem_cons, List.not_mem_nil, or_false, not_or] at nd'
    obtain ⟨⟨zI, zO, z1, z2⟩, ⟨IO, J1, J2⟩, ⟨O1, O2⟩, ⟨h12, _⟩⟩ := nd'
    have n1 : ∀ c, c ≠ z → c ∉ [z] := fun c h => by simpa using h
    have n3 : ∀ c, c ≠ z → c ≠ i1 → c ≠ TO → c ∉ [z, i1, TO] := fun c h h' h'' => by simp [h, h', h'']
    refine pnx_zip nd st.zip st.its hO (x := u) (y := v) (S1 := fun h => SIt h tb i1 a (i + 1)) (S2 := fun h => SIt h false i2 b (i + 1)) (fun A h k => gives_x (st.one.at fun o q => k _ o (n1 _ (Ne.symm z1)) q) (p1.at fun o q => k _ o (n1 _ az) q) (by simpa using hu))
      (fun A h k => gives_x (st.two.at fun o q => k _ o (n3 _ (Ne.symm z2) (Ne.symm h12) (Ne.symm O2)) q) (p2.at fun o q => k _ o (n3 _ bz b1 bO) q) (by simpa using hv)) (fun h h' t k => SIt.at t k) (fun h h' t k => SIt.at t k) fun h1 hz1 hO1 t1 t2 pr kp => ⟨_, rfl, ?_⟩
    refine wpAny_letOwnedTupleGo_zip hz1 fun h2 hz2 sb => ?_
    have sb : Heap.SameBut z h1 h2 := sb
    have fpl : ∀ c ∈ [z, TI, TO, i1, i2], c < s.heap.objs.size := fun c hc => by
      obtain ⟨_, e1, _⟩ := st.one.obj
      obtain ⟨_, e2, _⟩ := st.two.obj
      simp only [List.mem_cons, List.not_mem_nil, or_false] at hc
      rcases hc with rfl | rfl | rfl | rfl | rfl
      · exact Heap.lt_size st.zip
      · exact Heap.lt_size st.its
      · exact Heap.lt_size hO
      · exact Heap.lt_size e1
      · exact Heap.lt_size e2
    have hp : H s.heap.objs.size = none := I.hok.fresh (Nat.le_refl _)
    have I1 : Inv X pins σ (upd H s.heap.objs.size (.tup [x, y])) { s with heap := s.heap.push ⟨.type "tuple", none, .seq #[u, v] 0, #[]⟩, toks := s.toks } :=
      I.laid (fun c o q => Heap.get?_push_of_some _ q) (Nat.le_refl _) (show ObjOk X.prog X.w _ _ _ (.tup [x, y]) from ⟨by show 2 ≤ sizeLine; rw [sizeLine_eq]; decide, [u, v], .cons ru (.cons rv .nil), TupN.new _ _⟩)
    have hf1 : ∀ c ∈ [z, TI, TO, i1, i2], FpOk X pins (upd H s.heap.objs.size (.tup [x, y])) c := fun c hc => by
      obtain ⟨f0, f⟩ := hf c hc
      exact ⟨by rw [upd_ne (Nat.ne_of_lt (fpl c hc))]; exact f0, f⟩
    have kk : ∀ c o, c ∉ [z, TI, TO, i1, i2] → (s.heap.push ⟨.type "tuple", none, .seq #[u, v] 0, #[]⟩).get? c = some o → h2.get? c = some o := fun c o hc q => by
      have hcz : c ≠ z := fun e => hc (by simp [e])
      rw [sb.2 c hcz]
      by_cases hcs : c = s.heap.objs.size
      · subst hcs
        have q2 : (s.heap.push ⟨.type "tuple", none, .seq #[u, v] 0, #[]⟩).get? s.heap.objs.size = some ⟨.type "tuple", none, .seq #[u, v] 0, #[]⟩ := Heap.get?_push_size _ rfl
        rw [q2] at q
        cases q
        exact pr
      · have q' : s.heap.get? c = some o := (Heap.get?_push_ne s.heap _ _ hcs).symm.trans q
        exact kp c o (fun e => hc (by simp only [List.mem_cons, List.not_mem_nil, or_false] at e ⊢; rcases e with e | e | e | e <;> simp [e])) q'
    have I2 : Inv X pins σ (upd H s.heap.objs.size (.tup [x, y])) { s with heap := h2, toks := s.toks } := Inv.turnedL (s := { s with heap := s.heap.push ⟨.type "tuple", none, .seq #[u, v] 0, #[]⟩, toks := s.toks }) (h' := h2) (t' := s.toks) (fp := [z, TI, TO, i1, i2]) I1 kk hf1
    have up : ∀ c o, c ≠ z → h1.get? c = some o → h2.get? c = some o := fun c o hc q => (sb.2 c hc).trans q
    refine ⟨.ref s.heap.objs.size, _, I2, rfl, ⟨_, x, y, hp, rfl, rfl, fun xs' ys' h1 h2 => ⟨by rw [I.seqX_inj h1 hq1]; exact hx, by rw [I.list_inj h2 hq2]; exact hy⟩⟩,
      ⟨hz2, up TI _ (Ne.symm zI) (kp TI _ (by simp [Ne.symm zI, IO, J1, J2]) st.its), ⟨u, v, up TO _ (Ne.symm zO) hO1⟩, t1.at fun o q => up i1 o (Ne.symm z1) q, t2.at fun o q => up i2 o (Ne.symm z2) q⟩, fun c hc => (hf1 c hc).1⟩
  done := by
    intro X hP hw hK hc i pins s σ H E I hf st hg
    subst hP hw hK
    obtain ⟨xs, ys, hq1, hq2, hle⟩ := hg
    obtain ⟨l1, rv1, p1⟩ := I.seqX hq1
    obtain ⟨l2, rv2, p2, _⟩ := I.list hq2
    have p2 : SSq s.heap false b l2.toArray := p2.isList
    obtain ⟨q1, q2, hO⟩ := st.out
    obtain ⟨o1, e1, c1⟩ := p1.obj
    obtain ⟨o2, e2, c2⟩ := p2.obj
    have e2l : o2.cls = .type "list" := by
      obtain ⟨o, e, c, _⟩ := (show s.heap.IsList b l2.toArray from p2)
      rw [e2] at e; cases e; exact c
    have az : a ≠ z := fun q => by rw [q, st.zip] at e1; cases e1; rcases c1 with c | c <;> simp at c
    have bz : b ≠ z := fun q => by rw [q, st.zip] at e2; cases e2; simp at e2l
    have bO : b ≠ TO := fun q => by rw [q, hO] at e2; cases e2; simp at e2l
    have b1 : b ≠ i1 := fun q => by
      obtain ⟨o, e, c, _⟩ := st.one.obj
      rw [q, e] at e2; cases e2; rw [e2l] at c; rcases c with c | c <;> simp at c
    have nd' := nd
    simp only [List.nodup_cons, List.mem_cons, List.not_mem_nil, or_false, not_or] at nd'
    obtain ⟨⟨zI, zO, z1, z2⟩, ⟨IO, J1, J2⟩, ⟨O1, O2⟩, ⟨h12, _⟩⟩ := nd'
    have n1 : ∀ c, c ≠ z → c ∉ [z] := fun c h => by simpa using h
    have n3 : ∀ c, c ≠ z → c ≠ i1 → c ≠ TO → c ∉ [z, i1, TO] := fun c h h' h'' => by simp [h, h', h'']
    have hl1 := rv1.length
    have hl2 := rv2.length
    refine pne_zip (I.ok.hd hc) nd st.zip st.its hO ?_ fun h' kp => ⟨rfl, I.turnedL (t' := s.toks) (fp := [z, TI, TO, i1, i2]) (fun c o hb q => kp c o (fun e => hb (by simp only [List.mem_cons, List.not_mem_nil, or_false] at e ⊢; rcases e with e | e | e | e <;> simp [e])) q) hf⟩
    by_cases h1 : xs.length ≤ i
    · exact .inl fun A hh h k => ends_x hh (st.one.at fun o q => k _ o (n1 _ (Ne.symm z1)) q) (p1.at fun o q => k _ o (n1 _ az) q) (by simp; omega)
    · have h2 : ys.length ≤ i := hle.resolve_left h1
      have hi : i < l1.length := by omega
      exact .inr ⟨⟨l1[i], _, fun A h k => gives_x (st.one.at fun o q => k _ o (n1 _ (Ne.symm z1)) q) (p1.at fun o q => k _ o (n1 _ az) q) (by simp [hi])⟩,
        fun A hh h k => ends_x hh (st.two.at fun o q => k _ o (n3 _ (Ne.symm z2) (Ne.symm h12) (Ne.symm O2)) q) (p2.at fun o q => k _ o (n3 _ bz b1 bO) q) (by simp; omega)⟩
  self := fun _ _ _ _ _ st h => wpAny_pyIter_zip st.zip h
def zipL : List D → List D → List D
  | a :: r, b :: q => .tup [a, b] :: zipL r q
  | _, _ => []
def zipS : D → D → Option (List D)
  | .tup xs, .lst ys => some (zipL xs ys)
  | .lst xs, .lst ys => some (zipL xs ys)
  | _, _ => none
def dZip (f g : DE) : DS → Option (List D) := fun δ => (f δ).bind fun a => (g δ).bind fun b => zipS a b
theorem zip_get : ∀ {ds es : List D} {i : Nat} {d e : D}, ds[i]? = some d → es[i]? = some e → (zipL ds es)[i]? = some (.tup [d, e])
  | x :: r, y :: q, 0, d, e, h, h' => by cases h; cases h'; rfl
  | x :: r, y :: q, i + 1, d, e, h, h' => zip_get (ds := r) (es := q) h h'
theorem zip_len : ∀ {ds es : List D}, (zipL ds es).length = min ds.length es.length
  | [], _ => by simp [zipL]
  | _ :: _, [] => by simp [zipL]
  | x :: r, y :: q => by
    show (zipL r q).length + 1 = min (r.length + 1) (q.length + 1)
    rw [zip_len]
    omega
theorem itd_zip {K : PySem.W.Frag} {H : Hp} {B : Addr → Prop} {tp : Bool} {a b : Addr} {xs ys : List V} {ds es : List D} (hs : ∀ H', Keep K B H H' → SqX K H' tp a xs) (hs2 : ∀ H', Keep K B H H' → SqL K H' b ys) (r : Reps K H B ds xs) (r2 : Reps K H B es ys) : ItD K (Itz K tp a b) H B (zipL ds es) := by
  have hl := r.length
  have hl2 := r2.length
  refine ⟨fun i H' kp hi => ?_, fun i H' kp hi => ?_, fun i H' v H2 kp hy => ?_⟩
  · rw [zip_len] at hi
    exact ⟨xs, ys, xs[i]'(by omega), ys[i]'(by omega), hs H' kp, hs2 H' kp, List.getElem?_eq_getElem _, List.getElem?_eq_getElem _⟩
  · rw [zip_len] at hi
    exact ⟨xs, ys, hs H' kp, hs2 H' kp, by omega⟩
  · obtain ⟨p, x, y, hp, rfl, rfl, hx⟩ := hy
    obtain ⟨hx, hy⟩ := hx xs ys (hs H' kp) (hs2 H' kp)
    obtain ⟨d, e, rd⟩ := (Reps.keep kp ds r).get' hx
    obtain ⟨d2, e2, rd2⟩ := (Reps.keep kp es r2).get' hy
    refine ⟨same_upd hp, .tup [d, d2], fun _ => zip_get e e2, ?_⟩
    unfold Rep
    exact ⟨p, _, rfl, SqT.of upd_same, .cons (rd.mono (same_upd hp)) (.one (rd2.mono (same_upd hp)))⟩
def iZip (K : PySem.W.Frag) (ta : TA) : TI := fun σ H R => ta σ H fun vs H1 => ∃ tp a b, vs = [V.ref a, V.ref b] ∧ (∃ xs, SqX K H1 tp a xs) ∧ (∃ ys, SqL K H1 b ys) ∧ R (Itz K tp a b) H1
theorem pi_zip {X : Cx} {elts : List Expr} {x1} {tp p pos : Pos} {l m : Expr} {ta : TA} (hg : Gl X "zip") (hm : X.mg "zip" = none) (ha : PA X [l, m] ta) (hs : starEach [l, m] X.env = [(false, eval l X.env), (false, eval m X.env)] := by rfl) (hs2 : starEach [m] X.env = [(false, eval m X.env)] := by rfl) :
    PI X (.Tuple elts x1 tp) (.Call (.Name "zip" p) [l, m] [] pos) (iZip X.K ta) := by
  intro pins s σ H R I h
  refine wpAny_Call_Name_kw (ld_blt I hg hm boot_zip (PyProof.Rows.callWith_type1 (thn (ha pos pins s σ H _ I h) fun us s1 ⟨vs, H1, I1, r1, q1⟩ => ?_) (by rw [hs, hs2]) (by rw [hs2]; rfl)))
  obtain ⟨tb, a, b, rfl, ⟨xs, hq1⟩, ⟨ys, hq2⟩, q⟩ := q1
  cases r1 with
  | cons ru r1 =>
    obtain ⟨v, rfl, rv⟩ := Vals.one r1
    cases ru
    cases rv
    obtain ⟨l1, rv1, p1⟩ := I1.seqX hq1
    obtain ⟨l2, rv2, p2, _⟩ := I1.list hq2
    have nd : [s1.heap.objs.size + 4, s1.heap.objs.size + 2, s1.heap.objs.size + 3, s1.heap.objs.size, s1.heap.objs.size + 1].Nodup := by
      generalize s1.heap.objs.size = n
      show List.Nodup [(n + 4 : Nat), n + 2, n + 3, n, n + 1]
      simp
    have fin : ∀ h', ZipAt h' tb a b (s1.heap.objs.size + 4) (s1.heap.objs.size + 2) (s1.heap.objs.size + 3) s1.heap.objs.size (s1.heap.objs.size + 1) 0 → (∀ c o, s1.heap.get? c = some o → h'.get? c = some o) →
        wpAny (model X.prog X.w) X.A (pyIter (.ref (s1.heap.objs.size + 4))) (PIE X pins σ (.Tuple elts x1 tp) R) X.xe { s1 with heap := h' } := fun h' st kp => by
      refine wpAny_pyIter_zip st.zip ?_
      have I2 : Inv X pins σ H1 { s1 with heap := h' } := I1.kept (t' := s1.toks) kp
      refine ⟨s1.heap.objs.size + 4, [s1.heap.objs.size + 4, s1.heap.objs.size + 2, s1.heap.objs.size + 3, s1.heap.objs.size, s1.heap.objs.size + 1], _, _, H1, rfl, I2, turn_zip tb a b _ _ _ _ _ nd, st, fun c hc => ?_, q⟩
      have hc' : s1.heap.objs.size ≤ c := by
        simp only [List.mem_cons, List.not_mem_nil, or_false] at hc
        rcases hc with rfl | rfl | rfl | rfl | rfl
        · exact Nat.le_add_right _ _
        · exact Nat.le_add_right _ _
        · exact Nat.le_add_right _ _
        · exact Nat.le_refl _
        · exact Nat.le_add_right _ _
      exact I1.fpOk hc' (I1.hok.fresh hc')
    cases tb with
    | true => exact call_zipT p1 p2.isList fun h' z1 z2 z3 z4 z5 kp => fin h' ⟨z1, z2, ⟨_, _, z3⟩, z4, z5⟩ kp
    | false => exact call_zip_2 p1 p2.isList fun h' z1 z2 z3 z4 z5 _ kp => fin h' ⟨z1, z2, ⟨_, _, z3⟩, z4, z5⟩ kp
theorem pi_zipD {X : Cx} {elts : List Expr} {x1} {tp p pos : Pos} {l m : Expr} {f g : DE} (hg : Gl X "zip") (hm : X.mg "zip" = none) (h1 : PD X l f) (h2 : PD X m g) (hs : starEach [l, m] X.env = [(false, eval l X.env), (false, eval m X.env)] := by rfl) (hs2 : starEach [m] X.env = [(false, eval m X.env)] := by rfl) :
    PID X (.Tuple elts x1 tp) (.Call (.Name "zip" p) [l, m] [] pos) (dZip f g) := (pi_zip hg hm (pad_cons h1 (pad_cons h2 pad_nil hs2) (by rw [hs, hs2])) hs hs2).imp fun σ H R ⟨B, δ, ds, hB, S, q, k⟩ => by
  unfold dZip at q
  cases e1 : f δ with
  | none => rw [e1] at q; cases q
  | some d1 =>
  rw [e1] at q
  cases e2 : g δ with
  | none => rw [e2] at q; cases q
  | some d2 =>
  rw [e2] at q
  have q' : zipS d1 d2 = some ds := q
  have ea : dArgs [f, g] δ = some [d1, d2] := by unfold dArgs dArgs; rw [e1, e2]; rfl
  refine ⟨B, δ, [d1, d2], hB, S, ea, fun vs H1 s1 r1 => ?_⟩
  unfold Reps at r1
  obtain ⟨x, r, rfl, rx, rr⟩ := r1
  unfold Reps at rr
  obtain ⟨y, r', rfl, ry, rr⟩ := rr
  unfold Reps at rr
  subst rr
  unfold zipS at q'
  split at q'
  · cases q'
    unfold Rep at rx ry
    obtain ⟨a, xs, rfl, h, rxs⟩ := rx
    obtain ⟨b, ys, rfl, n, h', rys⟩ := ry
    refine ⟨true, a, b, rfl, ⟨xs, h⟩, ⟨ys, SqL.of h'⟩, k _ H1 s1 fun C hC => ?_⟩
    have nb : ¬ (B b ∨ C b) := fun z => z.elim n fun z => by rw [hC b z] at h'; cases h'
    exact itd_zip (xs := xs) (ys := ys) (fun H' kp => kp.st a xs h) (fun H' kp => SqL.of (kp.sl b ys nb h')) (Reps.wide hC _ rxs) (Reps.wide hC _ rys)
  · cases q'
    unfold Rep at rx ry
    obtain ⟨a, xs, rfl, n1, h, rxs⟩ := rx
    obtain ⟨b, ys, rfl, n, h', rys⟩ := ry
    refine ⟨false, a, b, rfl, ⟨xs, SqL.of h⟩, ⟨ys, SqL.of h'⟩, k _ H1 s1 fun C hC => ?_⟩
    have na : ¬ (B a ∨ C a) := fun z => z.elim n1 fun z => by rw [hC a z] at h; cases h
    have nb : ¬ (B b ∨ C b) := fun z => z.elim n fun z => by rw [hC b z] at h'; cases h'
    exact itd_zip (xs := xs) (ys := ys) (fun H' kp => SqL.of (kp.sl a xs na h)) (fun H' kp => SqL.of (kp.sl b ys nb h')) (Reps.wide hC _ rxs) (Reps.wide hC _ rys)
  · cases q'
end L2

/-! ### E77: lists of ints that are changed no more are frozen: they are then as the script is, things that cannot change -/
namespace L2
open PySem PySem.Spec PyProof.Rows
section
variable {ob : Addr → Obj} {L : Addr → Bool} {H : Hp} {a : Addr}
end
section
variable {K : PySem.W.Frag} {ob : Addr → Obj} {L : Addr → Bool} {H0 H : Hp} {B B0 : Addr → Prop} {σ : St} {δ : SS} {R : Nat → List Addr}
end
/-! [[1, 2], [3]]: the inner ones -/
section
variable {K : PySem.W.Frag} {ob : Addr → Obj} {L : Addr → Bool} {H : Hp}
end
/-! ahead of a statement: an owned list of ints; the inner lists of an owned list -/
section
variable {X : Cx} {H0 : Hp} {B0 : Addr → Prop} {fr : Bool} {RX : XR} {st : Stmt}
end
end L2

/-! ### E78: x in xs, where xs may be frozen; tuple(xs) of such a one -/
namespace L2
open PySem PySem.Spec PyProof.Rows
section
variable {X : Cx}
variable {a b : Expr} {f g : DE} {pos : Pos}
/-! tuple(xs) -/
end
end L2

/-! ### E79: max(xs) and len(set(xs)) of a tuple of ints; {"a": x, "b": y} -/
namespace PySem
section
variable {prog : Program} {w : World} {A : Around} {E : Value → Shared → Prop} {s : Shared}
set_option maxHeartbeats 3200000 in
open PyProof.Rows in
end
end PySem
namespace L2
open PySem PySem.Spec PyProof.Rows
section
variable {X : Cx} {e : Expr} {te : TE} {p p' pos pos' : Pos}
variable {f : DE}
/-! max of a tuple -/
/-! {"a": x, "b": y}, x and y things that cannot change -/
end
end L2

/-! ### E80: a dict of two words -/
namespace L2
open PySem PySem.Spec PyProof.Rows
section
variable {X : Cx} {ka va kb vb : Expr} {pos : Pos} {fa fb fc fd : DE}
end
end L2

/-! ### E81: name = [elt for a, b in iter if c] -/
namespace L2
open PySem PySem.Spec PyProof.Rows
section
variable {X : Cx} {N' : List Str} {sc : Scope} {iter elt : Expr} {ifs : List Expr} {n : Nat} {x x' : Str} {px px' tp pos : Pos} {x1 : Nat} {fi : DS → Option (List D)} {fc : DS → Option Bool} {fe : DE}
end
end L2

/-! ### E82: defs that may raise and hand back what is shared -/
namespace L2
open PySem PySem.Spec PyProof.Rows
section
variable {P : Program} {w : World} {K : PySem.W.Frag} {mg : Str → Option Value} {base : Heap}
end
section
variable {X : Cx} {k : Nat} {sp : Sp} {cl : Nat → Value} {RX : XR} {x : Str} {p pos pos2 : Pos} {e : Expr} {es : List Expr} {t : TA}
variable {H0 : Hp} {B0 : Addr → Prop} {fr : Bool} {F : DS → Option XO}
end
end L2

/-! ### E83: x[1].append(n) of a shared tuple (word, list of ints), at the end of the law: what may be of it is forgotten -/
namespace L2
open PySem PySem.Spec PyProof.Rows
section
variable {K : PySem.W.Frag} {H : Hp} {B : Addr → Prop} {m : Addr} {c : Int} {ys : List V}
end
section
variable {K : PySem.W.Frag} {H0 H H' : Hp} {B0 : Addr → Prop} {σ : St} {δ : SS} {R : Nat → List Addr}
end
section
variable {X : Cx} {H0 : Hp} {B0 : Addr → Prop} {fr : Bool} {RX : XR} {st1 : Stmt} {sts : List Stmt} {f : DE} {x : Str} {px p2 ap cp pos : Pos} {ke e : Expr}
end
end L2

/-! ### E84: texts: +, <=, in, not in, t[k], t[a:b], len, str(n), int(t), find; for sign in t -/
namespace L2
open PySem PySem.Spec PyProof.Rows
def ixS : D → D → Option D
  | .str z, .int i => if z.length ≤ 1000000 then (atI z.cps.toList i).map fun c => .str ⟨#[c]⟩ else none
  | _, _ => none
section
variable {X : Cx} {a b c e o : Expr} {f g h : DE} {p pos apos cpos p2 : Pos} {tg : Expr}
/-! for sign in text -/
end
end L2

/-! ### E85: abs(n); // by a divisor of any sign -/
namespace L2
open PySem PySem.Spec PyProof.Rows
instance {i j : Int} : Decidable (CDivN i j) := by unfold CDivN; infer_instance
def divN : D → D → Option D := iop fun i j => if CDivN i j then some (.int (i.fdiv j)) else none
def absF : List D → Option D
  | [.int n] => some (.int (if n < 0 then -n else n))
  | _ => none
section
variable {X : Cx} {a b e : Expr} {f g : DE} {p pos : Pos}
theorem pd_divN (ha : PD X a f) (hb : PD X b g) : PD X (.BinOp a .FloorDiv b pos) (d2 divN f g) := pd_op op_fdivN o2_int ha hb
theorem oa_abs {K : PySem.W.Frag} : OpA K (fun xs H Q => ∃ n : Int, xs = [.int n] ∧ Q (.int (if n < 0 then -n else n)) H) absF := by
  intro H B ds d vs Q hB hr q k
  unfold absF at q
  split at q
  · cases q
    obtain ⟨v, rfl, r⟩ := reps1 hr
    unfold Rep at r
    subst r
    exact ⟨_, rfl, k _ H (.refl H) rfl⟩
  · cases q
theorem pd_abs (hg : Gl X "abs") (hm : X.mg "abs" = none) (h : PD X e f) (he : starEach [e] X.env = [(false, eval e X.env)] := by rfl) : PD X (.Call (.Name "abs" p) [e] [] pos) (dCall absF [f]) :=
  pd_callB call_abs oa_abs hg hm boot_abs (pad_cons h pad_nil he) (by decide) (by decide) he rfl
end
end L2

/-! ### M1: reckoning with the trees' functions -/
namespace L2
open PySem

/-! statements -/
theorem runD_rt {np nl : Nat} {g : SS → Option Out} {ds : List D} {d : D} (hl : ds.length = np) (e : g (ds.map (fun d => some (.sh d)) ++ List.replicate nl none) = some (.rt d)) : runD np nl g ds = some d := by
  unfold runD
  rw [if_pos hl, e]


/-! comprehensions -/
theorem small_line {n : Nat} (h : n ≤ 1000000) : n ≤ sizeLine := by rw [PySem.sizeLine_eq]; omega

/-! values -/
def bD (b : Bool) : D := .bl b
def rowD (r : List Bool) : D := .lst (r.map bD)
def tabD (T : List (List Bool)) : D := .lst (T.map rowD)
theorem ix_nat {ds : List D} {k : Nat} {d : D} (h : ds[k]? = some d) : ixD (.lst ds) (.int (k : Int)) = some d := atI_nat h
theorem bools_map : ∀ bs : List Bool, bools (bs.map bD) = some bs
  | [] => rfl
  | b :: bs => by
    show (bools (bs.map bD)).map (b :: ·) = _
    rw [bools_map bs]
    rfl
theorem imms_map_bD : ∀ r : List Bool, imms (r.map bD) = true
  | [] => rfl
  | b :: r => by
    show (true && imms (r.map bD)) = true
    rw [imms_map_bD r]
    rfl
end L2

/-! ### M2: tables of bools -/
namespace L2
open PySem
theorem eq_self {d : D} (h : okP d = true) : eqD d d = some (.bl true) := by
  unfold eqD
  rw [h]
  show (if (true && true) = true then some (D.bl (PyData.eqv (toP d) (toP d))) else none) = _
  rw [if_pos (show (true && true) = true from rfl), SeqAt.eqv_refl _ (okP_get h).1]
theorem row_ix {r : List Bool} {k : Nat} (h : k < r.length) : ixD (rowD r) (.int (k : Int)) = some (.bl r[k]) := ix_nat (by rw [List.getElem?_map, List.getElem?_eq_getElem h]; rfl)
theorem tab_ix {T : List (List Bool)} {k : Nat} (h : k < T.length) : ixD (tabD T) (.int (k : Int)) = some (rowD T[k]) := ix_nat (by rw [List.getElem?_map, List.getElem?_eq_getElem h]; rfl)
theorem ixN_nat {n k : Nat} (h : k < n) : ixN n (k : Int) = some k := by
  unfold ixN
  rw [if_pos (by omega), if_pos (by omega)]
  simp
/-- a square table -/
def Sq (n : Nat) (T : List (List Bool)) : Prop := T.length = n ∧ ∀ r ∈ T, r.length = n
theorem Sq.row {n : Nat} {T : List (List Bool)} (h : Sq n T) {k : Nat} (hk : k < T.length) : T[k].length = n := h.2 _ (List.getElem_mem hk)
theorem Sq.set {n : Nat} {T : List (List Bool)} (h : Sq n T) {a b : Nat} {v : Bool} (ha : a < T.length) : Sq n (T.set a (T[a].set b v)) := by
  refine ⟨by simp [h.1], fun r hr => ?_⟩
  rcases List.mem_or_eq_of_mem_set hr with z | z
  · exact h.2 r z
  · subst z
    rw [List.length_set]
    exact h.row ha
end L2

/-! ### M3: what comes of a mirror, said by what holds behind it -/
namespace L2
open PySem
def hol {α : Type} (x : Option α) (Q : α → Prop) : Prop := ∃ a, x = some a ∧ Q a
section
variable {α β : Type} {Q : α → Prop} {R : β → Prop}
theorem hol_some {a : α} : hol (some a) Q = Q a := propext ⟨fun ⟨_, e, q⟩ => by cases e; exact q, fun q => ⟨a, rfl, q⟩⟩
theorem hol.imp {x : Option α} {Q' : α → Prop} (h : hol x Q) (k : ∀ a, Q a → Q' a) : hol x Q' := let ⟨a, e, q⟩ := h; ⟨a, e, k a q⟩
theorem hol_is {x : Option α} {a : α} : hol x (fun b => b = a) ↔ x = some a := ⟨fun ⟨_, e, q⟩ => q ▸ e, fun e => ⟨a, e, rfl⟩⟩
end
def asB : D → Option Bool
  | .bl b => some b
  | _ => none
def asI : D → Option Int
  | .int i => some i
  | _ => none
def asL : D → Option (List D)
  | .lst ds => some ds
  | _ => none
section
variable {Q : D → Prop} {QB : Bool → Prop} {QL : List D → Prop} {QO : Out → Prop} {δ : DS} {s : SS} {f g h : DE} {F : D → D → Option D}
theorem ho_var0 {x : Option D} {r : DS} : dVar 0 (x :: r) = x := by cases x <;> rfl
/-! statements -/
def owA (i : Nat) (s : SS) : Option D := match s[i]? with
  | some (some (.ow d)) => some d
  | _ => none
/-! what a def comes to -/
theorem run_of {np nl : Nat} {b : SS → Option Out} {ds : List D} {d : D} (hl : ds.length = np) (h : hol (b (ds.map (fun d => some (.sh d)) ++ List.replicate nl none)) fun o => o = .rt d) : runD np nl b ds = some d := runD_rt hl (hol_is.mp h)
theorem hol_run {np nl : Nat} {b : SS → Option Out} {ds : List D} (hl : ds.length = np) (h : hol (b (ds.map (fun d => some (.sh d)) ++ List.replicate nl none)) fun o => ∃ d, o = .rt d ∧ Q d) : hol (runD np nl b ds) Q := by
  obtain ⟨o, e, d, rfl, q⟩ := h
  exact ⟨d, runD_rt hl e, q⟩
/-! loops -/
theorem for_hol {i : Nat} {b : SS → Option Out} {ds : List D} {s : SS} (I : Nat → SS → Prop) (h0 : I 0 s) (hs : ∀ n (h : n < ds.length) δ, I n δ → hol (b (δ.set i (some (.sh ds[n])))) fun o => match o with | .nx δ' => I (n + 1) δ' | .ct δ' => I (n + 1) δ' | .bk δ' => QO (.nx δ') | .rt d => QO (.rt d) | .ex c δ' => QO (.ex c δ')) (he : ∀ δ, I ds.length δ → QO (.nx δ)) : hol (forD i b ds s) QO := by
  induction ds generalizing s I with
  | nil => exact ⟨_, rfl, he _ h0⟩
  | cons x r ih =>
    obtain ⟨o, e, q⟩ := hs 0 (by simp) s h0
    have e : b (s.set i (some (.sh x))) = some o := e
    have step : ∀ s1, I 1 s1 → hol (forD i b r s1) QO := fun s1 h1 => ih (fun n => I (n + 1)) h1 (fun n hn δ hI => by
      have := hs (n + 1) (by simpa using hn) δ hI
      simpa using this) fun δ hI => he δ (by simpa using hI)
    unfold forD
    rw [e]
    cases o with
    | nx s1 => exact step s1 q
    | ct s1 => exact step s1 q
    | bk s1 => exact ⟨_, rfl, q⟩
    | rt d => exact ⟨_, rfl, q⟩
    | ex c s1 => exact ⟨_, rfl, q⟩
theorem for_rng {i : Nat} {b : SS → Option Out} {lo : Int} {m : Nat} {s : SS} (I : Nat → SS → Prop) (h0 : I 0 s) (hs : ∀ n, n < m → ∀ δ, I n δ → hol (b (δ.set i (some (.sh (.int (lo + (n : Int))))))) fun o => match o with | .nx δ' => I (n + 1) δ' | .ct δ' => I (n + 1) δ' | .bk δ' => QO (.nx δ') | .rt d => QO (.rt d) | .ex c δ' => QO (.ex c δ')) (he : ∀ δ, I m δ → QO (.nx δ)) : hol (forD i b (rngL lo m) s) QO := by
  refine for_hol I h0 (fun n hn δ hI => ?_) fun δ hI => he δ (by simpa [rngL] using hI)
  have hn' : n < m := by simpa [rngL] using hn
  have := hs n hn' δ hI
  simpa [rngL] using this
theorem for_map {α : Type} {enc : α → D} {i : Nat} {b : SS → Option Out} {xs : List α} {s : SS} (I : List α → SS → Prop) (h0 : I [] s) (hs : ∀ pre x post, xs = pre ++ x :: post → ∀ δ, I pre δ → hol (b (δ.set i (some (.sh (enc x))))) fun o => match o with | .nx δ' => I (pre ++ [x]) δ' | .ct δ' => I (pre ++ [x]) δ' | .bk δ' => QO (.nx δ') | .rt d => QO (.rt d) | .ex c δ' => QO (.ex c δ')) (he : ∀ δ, I xs δ → QO (.nx δ)) : hol (forD i b (xs.map enc) s) QO := by
  refine for_hol (fun n δ => I (xs.take n) δ) (by simpa using h0) (fun n hn δ hI => ?_) fun δ hI => he δ (by simpa using hI)
  have hn' : n < xs.length := by simpa using hn
  have e : xs = xs.take n ++ xs[n] :: xs.drop (n + 1) := by
    rw [← List.drop_eq_getElem_cons hn', List.take_append_drop]
  have := hs (xs.take n) xs[n] _ e δ hI
  rw [← List.take_succ_eq_append_getElem hn'] at this
  rw [List.getElem_map]
  exact this
end
end L2

/-! ### M4: mirrors reckoned out, term by term -/
namespace L2
open PySem
def o2 (F : D → D → Option D) : Option D → Option D → Option D
  | some x, some y => F x y
  | _, _ => none
def andO : Option D → Option D → Option D
  | some (.bl true), y => y
  | some (.bl false), _ => some (.bl false)
  | _, _ => none
def orO : Option D → Option D → Option D
  | some (.bl true), _ => some (.bl true)
  | some (.bl false), y => y
  | _, _ => none
def andT : Option Bool → Option Bool → Option Bool
  | some true, y => y
  | some false, _ => some false
  | _, _ => none
def orT : Option Bool → Option Bool → Option Bool
  | some true, _ => some true
  | some false, y => y
  | _, _ => none
def iteO {α : Type} : Option Bool → Option α → Option α → Option α
  | some true, x, _ => x
  | some false, _, y => y
  | _, _, _ => none
def consA : Option D → Option (List D) → Option (List D)
  | some x, some xs => some (x :: xs)
  | _, _ => none
def immO : Option D → Option D
  | some d => if d.imm = true then some d else none
  | none => none
def flatO : Option (List D) → Option (List D)
  | some ds => if imms ds = true then some ds else none
  | none => none
def bindO (x : Option Out) (b : SS → Option Out) : Option Out := match x with
  | some (.nx s) => b s
  | o => o
def rng1 : Option D → Option (List D)
  | some (.int j) => if -(2 ^ 62) ≤ j ∧ j < 2 ^ 62 then some (rngL 0 j.toNat) else none
  | _ => none
def rng2 : Option D → Option D → Option (List D)
  | some (.int i), some (.int j) => if -(2 ^ 62) ≤ i ∧ i < 2 ^ 62 ∧ -(2 ^ 62) ≤ j ∧ j < 2 ^ 62 then some (rngL i (j - i).toNat) else none
  | _, _ => none
def cut3 (x : Option D) (lo hi : Option (Option Int)) : Option (List D) := match x, lo, hi with
  | some (.lst ds), some l, some h => some (cutL ds l h)
  | some (.scr ns), some l, some h => some (cutL (ns.map .int) l h)
  | _, _, _ => none
def partO : Option D → Option (Option Int)
  | some (.int i) => some (some i)
  | _ => none
def setO (mk : D → SD) (i : Nat) (x : Option D) (s : SS) : Option Out := match x with
  | some d => some (.nx (s.set i (some (mk d))))
  | none => none
def rtO : Option D → Option Out
  | some d => some (.rt d)
  | none => none
def forX (i : Nat) (ds : Option (List D)) (b : SS → Option Out) (s : SS) : Option Out := match ds with
  | some ds => forD i b ds s
  | none => none
def putO (i : Nat) (x : Option D) (s : SS) : Option Out := match x with
  | some d => some (.nx ((dropBs i s).set i (some (.ow d))))
  | none => none
def compF (fc : DS → Option Bool) (fe : DE) (δ : DS) : D → Option (Option D) := fun x => (fc (δ ++ [some x])).bind fun k => if k = true then (fe (δ ++ [some x])).map some else some none
def compX (xs : Option (List D)) (h : D → Option (Option D)) : Option (List D) := match xs with
  | some xs => if xs.length ≤ sizeLine then compL h xs else none
  | none => none
section
variable {f g h : DE} {δ : DS} {s : SS} {F : D → D → Option D} {c e : DS → Option Bool} {a b : SS → Option Out} {i j : Nat}
theorem ev_var0 {x : Option D} {r : DS} : dVar 0 (x :: r) = x := ho_var0
theorem ev_varS {x : Option D} {r : DS} : dVar (i + 1) (x :: r) = dVar i r := (rfl)
theorem ev_C {d : D} : dC d δ = some d := (rfl)
theorem ev_d2 : d2 F f g δ = o2 F (f δ) (g δ) := by
  unfold d2 o2
  cases f δ <;> cases g δ <;> rfl
theorem ev_d1 {G : D → Option D} : d1 G f δ = (f δ).bind G := (rfl)
theorem ev_test : dTest f δ = (f δ).bind asB := by
  unfold dTest
  cases f δ with
  | none => rfl
  | some d => cases d <;> rfl
theorem ev_truth : dTruth f δ = (f δ).bind truthD := (rfl)
theorem ev_andT : dAndT c e δ = andT (c δ) (e δ) := by
  unfold dAndT
  rcases c δ with _ | _ | _ <;> rfl
theorem ev_orT : dOrT c e δ = orT (c δ) (e δ) := by
  unfold dOrT
  rcases c δ with _ | _ | _ <;> rfl
theorem ev_notT : dNotT c δ = (c δ).map (!·) := (rfl)
theorem ev_and : dAnd f g δ = andO (f δ) (g δ) := by
  unfold dAnd andO
  rcases f δ with _ | (_ | (_ | _) | _ | _ | _ | _ | _ | _) <;> rfl
theorem ev_or : dOr f g δ = orO (f δ) (g δ) := by
  unfold dOr orO
  rcases f δ with _ | (_ | (_ | _) | _ | _ | _ | _ | _ | _) <;> rfl
theorem ev_if : dIf c f g δ = iteO (c δ) (f δ) (g δ) := by
  unfold dIf
  rcases c δ with _ | _ | _ <;> rfl
theorem ev_args0 : dArgs [] δ = some [] := (rfl)
theorem ev_argsS {r : List DE} : dArgs (f :: r) δ = consA (f δ) (dArgs r δ) := by
  show ((f δ).bind fun x => (dArgs r δ).bind fun xs => some (x :: xs)) = _
  cases f δ <;> cases dArgs r δ <;> rfl
theorem ev_call {M : List D → Option D} {fl : List DE} : dCall M fl δ = (dArgs fl δ).bind M := (rfl)
theorem ev_callL {M : List D → Option (List D)} {fl : List DE} : dCallL M fl δ = (dArgs fl δ).bind M := (rfl)
theorem ev_mkL {f : DS → Option (List D)} : mkL f δ = (f δ).map .lst := (rfl)
theorem ev_mkT {f : DS → Option (List D)} : mkT f δ = (f δ).map .tup := (rfl)
theorem ev_mkFlat {f : DS → Option (List D)} : mkFlat f δ = (flatO (f δ)).map .lst := by
  unfold mkFlat flatO
  cases f δ with
  | none => rfl
  | some ds =>
    show (if imms ds = true then _ else _) = Option.map _ (if imms ds = true then _ else _)
    split <;> rfl
theorem ev_mkImm : mkImm f δ = immO (f δ) := by
  unfold mkImm immO
  cases f δ <;> rfl
theorem ev_is {T : String} : dIs T f δ = (f δ).map fun d => .bl (isF T d) := (rfl)
theorem ev_seq : dSeq f δ = (f δ).bind seqD := (rfl)
theorem ev_rng1 : dRng1 f δ = rng1 (f δ) := (rfl)
theorem ev_rng2 : dRng2 f g δ = rng2 (f δ) (g δ) := (rfl)
theorem ev_comp {fi : DS → Option (List D)} : dComp fi c f δ = compX (fi δ) (compF c f δ) := by
  unfold dComp compX
  cases fi δ <;> rfl
theorem ev_part : dPart f δ = partO (f δ) := (rfl)
theorem ev_nopart : dNoPart δ = some none := (rfl)
theorem ev_cut {fl fh : DS → Option (Option Int)} : dCut f fl fh δ = cut3 (f δ) (fl δ) (fh δ) := by
  unfold dCut cut3
  rcases f δ with _ | (_ | _ | _ | _ | _ | _ | _ | _) <;> first | rfl | (cases fl δ <;> cases fh δ <;> rfl)
theorem ev_seqO : seqO a b s = bindO (a s) b := by
  unfold seqO bindO
  rcases a s with _ | (_ | _ | _ | _) <;> rfl
theorem ev_skip : skipO s = some (.nx s) := (rfl)
theorem ev_bk : bkO s = some (.bk s) := (rfl)
theorem ev_ct : ctO s = some (.ct s) := (rfl)
theorem ev_asgS : asgS i f s = setO .sh i (f (shV s)) s := by
  unfold asgS setO
  cases f (shV s) <;> rfl
theorem ev_asgI : asgI i f s = setO .sh i (immO (f (allV s))) s := by
  unfold asgI setO immO
  cases f (allV s) with
  | none => rfl
  | some d =>
    show (if d.imm = true then _ else _) = (match (if d.imm = true then some d else none) with | some d => some (Out.nx (s.set i (some (SD.sh d)))) | none => none)
    split <;> rfl
theorem ev_asgN : asgN i f s = setO .ow i (f (allV s)) s := by
  unfold asgN setO
  cases f (allV s) <;> rfl
theorem ev_retI : retI f s = rtO (immO (f (allV s))) := by
  unfold retI rtO immO
  cases f (allV s) with
  | none => rfl
  | some d =>
    show (if d.imm = true then _ else _) = (match (if d.imm = true then some d else none) with | some d => some (Out.rt d) | none => none)
    split <;> rfl
theorem ev_retN : retN f s = rtO (f (allV s)) := by
  unfold retN rtO
  cases f (allV s) <;> rfl
theorem ev_retS : retS f s = rtO (f (shV s)) := by
  unfold retS rtO
  cases f (shV s) <;> rfl
theorem ev_retO : retO i s = rtO (owA i s) := by
  unfold retO rtO owA
  rcases s[i]? with _ | _ | ⟨x | x | ⟨r, x⟩⟩ <;> rfl
theorem ev_ifO : ifO c a b s = iteO (c (allV s)) (a s) (b s) := by
  unfold ifO
  rcases c (allV s) with _ | _ | _ <;> rfl
theorem ev_forO {fi : DS → Option (List D)} : forO i fi b s = forX i (fi (shV s)) b s := by
  unfold forO forX
  cases fi (shV s) <;> rfl
theorem ev_frz : frzO i b s = b (frzS i s) := (rfl)
/-! how they go on when the parts are there -/
theorem eo_2 {x y : D} : o2 F (some x) (some y) = F x y := (rfl)
theorem eo_and {x y : Bool} : andO (some (.bl x)) (some (.bl y)) = some (.bl (x && y)) := by cases x <;> rfl
theorem eo_andt {y : Option D} : andO (some (.bl true)) y = y := (rfl)
theorem eo_andf {y : Option D} : andO (some (.bl false)) y = some (.bl false) := (rfl)
theorem eo_or {x y : Bool} : orO (some (.bl x)) (some (.bl y)) = some (.bl (x || y)) := by cases x <;> rfl
theorem eo_ort {y : Option D} : orO (some (.bl true)) y = some (.bl true) := (rfl)
theorem eo_orf {y : Option D} : orO (some (.bl false)) y = y := (rfl)
theorem eo_andT {x y : Bool} : andT (some x) (some y) = some (x && y) := by cases x <;> rfl
theorem eo_andTt {y : Option Bool} : andT (some true) y = y := (rfl)
theorem eo_andTf {y : Option Bool} : andT (some false) y = some false := (rfl)
theorem eo_orT {x y : Bool} : orT (some x) (some y) = some (x || y) := by cases x <;> rfl
theorem eo_orTt {y : Option Bool} : orT (some true) y = some true := (rfl)
theorem eo_orTf {y : Option Bool} : orT (some false) y = y := (rfl)
theorem eo_itet {α : Type} {x y : Option α} : iteO (some true) x y = x := (rfl)
theorem eo_itef {α : Type} {x y : Option α} : iteO (some false) x y = y := (rfl)
theorem eo_cons {x : D} {xs : List D} : consA (some x) (some xs) = some (x :: xs) := (rfl)
theorem eo_nx : bindO (some (.nx s)) b = b s := (rfl)
theorem eo_rt {d : D} : bindO (some (.rt d)) b = some (.rt d) := (rfl)
theorem eo_bk : bindO (some (.bk s)) b = some (.bk s) := (rfl)
theorem eo_ct : bindO (some (.ct s)) b = some (.ct s) := (rfl)
theorem eo_set {mk : D → SD} {d : D} : setO mk i (some d) s = some (.nx (s.set i (some (mk d)))) := (rfl)
theorem eo_rtO {d : D} : rtO (some d) = some (.rt d) := (rfl)
theorem eo_for {ds : List D} : forX i (some ds) b s = forD i b ds s := (rfl)
theorem eo_immI {n : Int} : immO (some (.int n)) = some (.int n) := (rfl)
theorem eo_immB {n : Bool} : immO (some (.bl n)) = some (.bl n) := (rfl)
theorem eo_immN : immO (some .non) = some .non := (rfl)
theorem eo_immS {x : Str} : immO (some (.str x)) = some (.str x) := (rfl)
theorem eo_immR {ns : List Int} : immO (some (.scr ns)) = some (.scr ns) := (rfl)
theorem eo_flat {ds : List D} (h : imms ds = true) : flatO (some ds) = some ds := if_pos h
theorem eo_part {n : Int} : partO (some (.int n)) = some (some n) := (rfl)
theorem eo_cutL {ds : List D} {l h : Option Int} : cut3 (some (.lst ds)) (some l) (some h) = some (cutL ds l h) := (rfl)
theorem eo_cutR {ns : List Int} {l h : Option Int} : cut3 (some (.scr ns)) (some l) (some h) = some (cutL (ns.map .int) l h) := (rfl)
theorem eo_rng1 {n : Int} (h : -(2 ^ 62) ≤ n ∧ n < 2 ^ 62) : rng1 (some (.int n)) = some (rngL 0 n.toNat) := if_pos h
theorem eo_rng2 {m n : Int} (h : -(2 ^ 62) ≤ m ∧ m < 2 ^ 62 ∧ -(2 ^ 62) ≤ n ∧ n < 2 ^ 62) : rng2 (some (.int m)) (some (.int n)) = some (rngL m (n - m).toNat) := if_pos h
theorem eo_comp {xs : List D} {k : D → Option (Option D)} (h : xs.length ≤ 1000000) : compX (some xs) k = compL k xs := if_pos (small_line h)
/-! values -/
section
variable {m n : Int} {p q : Bool} {ds es : List D} {x y : Str} {ns : List Int}
theorem ea_add : addI (.int m) (.int n) = some (.int (m + n)) := (rfl)
theorem ea_sub : subI (.int m) (.int n) = some (.int (m - n)) := (rfl)
theorem ea_mul (h : CMul m n) : mulI (.int m) (.int n) = some (.int (m * n)) := if_pos h
theorem ea_div (h : CDiv m n) : divI (.int m) (.int n) = some (.int (m / n)) := if_pos h
theorem ea_mod (h : 0 < n) : modI (.int m) (.int n) = some (.int (m % n)) := if_pos h
theorem ea_pow (h : CPow m n) : powI (.int m) (.int n) = some (.int (m ^ n.toNat)) := if_pos h
theorem ea_lt : ltI (.int m) (.int n) = some (.bl (decide (m < n))) := (rfl)
theorem ea_le : leI (.int m) (.int n) = some (.bl (decide (m ≤ n))) := (rfl)
theorem ea_gt : gtI (.int m) (.int n) = some (.bl (decide (n < m))) := (rfl)
theorem ea_ge : geI (.int m) (.int n) = some (.bl (decide (n ≤ m))) := (rfl)
theorem ea_eqI : eqD (.int m) (.int n) = some (.bl (decide (m = n))) := (rfl)
theorem ea_neI : neD (.int m) (.int n) = some (.bl (!decide (m = n))) := (rfl)
theorem ea_eqB : eqD (.bl p) (.bl q) = some (.bl (p == q)) := (rfl)
theorem ea_neB : neD (.bl p) (.bl q) = some (.bl (!(p == q))) := (rfl)
theorem ea_neg : uNeg (.int m) = some (.int (-m)) := (rfl)
theorem ea_not : uNot (.bl p) = some (.bl (!p)) := (rfl)
theorem ea_truB : truthD (.bl p) = some p := (rfl)
theorem ea_truI : truthD (.int m) = some (m != 0) := (rfl)
theorem ea_truL : truthD (.lst ds) = some (!ds.isEmpty) := (rfl)
theorem ea_truN : truthD .non = some false := (rfl)
theorem ea_seqL : seqD (.lst ds) = some ds := (rfl)
theorem ea_seqT : seqD (.tup ds) = some ds := (rfl)
theorem ea_seqR : seqD (.scr ns) = some (ns.map .int) := (rfl)
theorem ea_lenL : lenF [.lst ds] = some (.int (ds.length : Int)) := (rfl)
theorem ea_lenT : lenF [.tup ds] = some (.int (ds.length : Int)) := (rfl)
theorem ea_lenR : lenF [.scr ns] = some (.int (ns.length : Int)) := (rfl)
theorem ea_listL : listF [.lst ds] = some ds := (rfl)
theorem ea_listT : listF [.tup ds] = some ds := (rfl)
theorem ea_listR : listF [.scr ns] = some (ns.map .int) := (rfl)
theorem ea_tupL : tupF [.lst ds] = some (.tup ds) := (rfl)
theorem ea_tupT : tupF [.tup ds] = some (.tup ds) := (rfl)
theorem ea_ixL : ixD (.lst ds) (.int m) = atI ds m := (rfl)
theorem ea_ixT : ixD (.tup ds) (.int m) = atI ds m := (rfl)
theorem ea_ixR : ixD (.scr ns) (.int m) = (atI ns m).map .int := (rfl)
theorem ea_isBB : isF "bool" (.bl p) = true := (rfl)
theorem ea_isBI : isF "bool" (.int m) = false := (rfl)
theorem ea_isII : isF "int" (.int m) = true := (rfl)
theorem ea_isIB : isF "int" (.bl p) = true := (rfl)
theorem ea_isLL : isF "list" (.lst ds) = true := (rfl)
theorem ea_isLT : isF "list" (.tup ds) = false := (rfl)
theorem ea_isTT : isF "tuple" (.tup ds) = true := (rfl)
theorem ea_isLN : isF "list" .non = false := (rfl)
theorem ea_asB : asB (.bl p) = some p := (rfl)
theorem ea_asI : asI (.int m) = some m := (rfl)
theorem ea_asL : asL (.lst ds) = some ds := (rfl)
end
theorem eb_bs {α β : Type} {a : α} {k : α → Option β} : (some a).bind k = k a := (rfl)
theorem eb_bn {α β : Type} {k : α → Option β} : (none : Option α).bind k = none := (rfl)
theorem eb_ms {α β : Type} {a : α} {k : α → β} : (some a).map k = some (k a) := (rfl)
theorem eb_mn {α β : Type} {k : α → β} : (none : Option α).map k = none := (rfl)
theorem eb_s0 {α : Type} {x y : α} {r : List α} : (x :: r).set 0 y = y :: r := (rfl)
theorem eb_sS {α : Type} {n : Nat} {x y : α} {r : List α} : (x :: r).set (n + 1) y = x :: r.set n y := (rfl)
theorem eb_mc {α β : Type} {x : α} {r : List α} {k : α → β} : (x :: r).map k = k x :: r.map k := (rfl)
theorem eb_mnil {α β : Type} {k : α → β} : ([] : List α).map k = [] := (rfl)
theorem eb_rS {α : Type} {n : Nat} {x : α} : List.replicate (n + 1) x = x :: List.replicate n x := (rfl)
theorem eb_r0 {α : Type} {x : α} : List.replicate 0 x = [] := (rfl)
theorem eb_ca {α : Type} {x : α} {r t : List α} : (x :: r) ++ t = x :: (r ++ t) := (rfl)
theorem eb_na {α : Type} {t : List α} : [] ++ t = t := (rfl)
/-! states -/
theorem es_all0 : allV [] = [] := (rfl)
theorem es_allS {x : Option SD} {r : SS} : allV (x :: r) = x.map SD.val :: allV r := (rfl)
theorem es_sh0 : shV [] = [] := (rfl)
theorem es_shS {x : Option SD} {r : SS} : shV (x :: r) = shO x :: shV r := (rfl)
theorem es_val1 {d : D} : Option.map SD.val (some (.sh d)) = some d := (rfl)
theorem es_val2 {d : D} : Option.map SD.val (some (.ow d)) = some d := (rfl)
theorem es_val3 : Option.map SD.val none = none := (rfl)
theorem es_shO {d : D} : shO (some (.sh d)) = some d := (rfl)
theorem es_drop0 : dropBs i [] = [] := (rfl)
theorem es_dropS {x : Option SD} {r : SS} : dropBs i (x :: r) = dropB i x :: dropBs i r := (rfl)
theorem es_dropSh {d : D} : dropB i (some (.sh d)) = some (.sh d) := (rfl)
theorem es_dropOw {d : D} : dropB i (some (.ow d)) = some (.ow d) := (rfl)
theorem es_dropN : dropB i none = none := (rfl)
theorem es_ow0 {d : D} {r : SS} : owA 0 (some (.ow d) :: r) = some d := (rfl)
theorem es_owS {x : Option SD} {r : SS} : owA (i + 1) (x :: r) = owA i r := (rfl)
end
end L2

/-! ### M5: changes of owned lists; comprehensions -/
namespace L2
open PySem
def immsO : Option (List D) → Option (List D) := flatO
def st0V (o k v : Option D) : Option D := match o, k, v with
  | some (.lst ds), some (.int k), some d => (ixN ds.length k).map fun j => .lst (ds.set j d)
  | _, _, _ => none
def st1V (o k j v : Option D) : Option D := match o, k, j, v with
  | some (.lst ds), some (.int k), some (.int j), some d => (ixN ds.length k).bind fun k' => (match ds[k']? with
    | some (.lst es) => if imms es = true then (ixN es.length j).map fun j' => .lst (ds.set k' (.lst (es.set j' d))) else none
    | _ => none)
  | _, _, _, _ => none
def m0V (M : List D → List D → Option (List D)) (o : Option D) (args : Option (List D)) : Option D := match o, args with
  | some (.lst ds), some args => (M ds args).map .lst
  | _, _ => none
def m1V (M : List D → List D → Option (List D)) (o k : Option D) (args : Option (List D)) : Option D := match o, k, args with
  | some (.lst ds), some (.int k), some args => (ixN ds.length k).bind fun j => (match ds[j]? with
    | some (.lst es) => if imms es = true then (flatO (M es args)).map fun es' => .lst (ds.set j (.lst es')) else none
    | _ => none)
  | _, _, _ => none
def mMV (M : List D → Option D) (o : Option D) (args : Option (List D)) : Option D := match o, args with
  | some d0, some args => M (d0 :: args)
  | _, _ => none
section
variable {f g fk fj fv : DE} {s : SS} {i : Nat} {M : List D → List D → Option (List D)} {fl : List DE}
theorem eo_put {d : D} : putO i (some d) s = some (.nx ((dropBs i s).set i (some (.ow d)))) := (rfl)
/-- what is an int, what is a list that is owned -/
def kI : D → Option Int
  | .int k => some k
  | _ => none
def kL : D → Option (List D)
  | .lst ds => some ds
  | _ => none
def kW : Option (Option SD) → Option D
  | some (some (.ow d)) => some d
  | _ => none
theorem owA_kW : owA i s = kW s[i]? := by
  unfold owA kW
  generalize s[i]? = x
  rcases x with _ | _ | ⟨x | x | ⟨r, x⟩⟩ <;> rfl
theorem mt2 {β : Type} {k : D} {x : Option (Option SD)} {F : Int → List D → Option β} : (match k, x with | .int k, some (some (.ow (.lst ds))) => F k ds | _, _ => none) = (kI k).bind fun k => ((kW x).bind kL).bind fun ds => F k ds := by
  cases k with
  | int k => rcases x with _ | _ | ⟨x | x | ⟨r, x⟩⟩ <;> first | rfl | (cases x <;> rfl)
  | _ => rfl
theorem mt3 {β : Type} {k j : D} {x : Option (Option SD)} {F : Int → Int → List D → Option β} : (match k, j, x with | .int k, .int j, some (some (.ow (.lst ds))) => F k j ds | _, _, _ => none) = (kI k).bind fun k => (kI j).bind fun j => ((kW x).bind kL).bind fun ds => F k j ds := by
  cases k with
  | int k =>
    cases j with
    | int j => rcases x with _ | _ | ⟨x | x | ⟨r, x⟩⟩ <;> first | rfl | (cases x <;> rfl)
    | _ => rfl
  | _ => rfl
theorem st0V_k {o k v : Option D} : st0V o k v = (o.bind kL).bind fun ds => (k.bind kI).bind fun k => v.bind fun d => (ixN ds.length k).map fun j => .lst (ds.set j d) := by
  rcases o with _ | o
  · rfl
  · cases o with
    | lst ds =>
      rcases k with _ | k
      · rfl
      · cases k with
        | int k => cases v <;> rfl
        | _ => rfl
    | _ => rfl
theorem st1V_k {o k j v : Option D} : st1V o k j v = (o.bind kL).bind fun ds => (k.bind kI).bind fun k => (j.bind kI).bind fun j => v.bind fun d => (ixN ds.length k).bind fun k' => (match ds[k']? with
    | some (.lst es) => if imms es = true then (ixN es.length j).map fun j' => .lst (ds.set k' (.lst (es.set j' d))) else none
    | _ => none) := by
  rcases o with _ | o
  · rfl
  · cases o with
    | lst ds =>
      rcases k with _ | k
      · rfl
      · cases k with
        | int k =>
          rcases j with _ | j
          · rfl
          · cases j with
            | int j => cases v <;> rfl
            | _ => rfl
        | _ => rfl
    | _ => rfl
theorem putO_b {α : Type} {x : Option α} {F : α → Option D} : putO i (x.bind F) s = x.bind fun a => putO i (F a) s := by cases x <;> rfl
theorem bind_no {α β : Type} {x : Option α} : (x.bind fun _ => (none : Option β)) = none := by cases x <;> rfl
theorem ev_st0 : st0 i fk fv s = putO i (st0V (owA i s) (fk (allV s)) (immO (fv (allV s)))) s := by
  have e : st0 i fk fv s = (fv (allV s)).bind fun d => if d.imm = true then (fk (allV s)).bind fun dk => (kI dk).bind fun k => ((kW s[i]?).bind kL).bind fun ds => (ixN ds.length k).map fun j => .nx ((dropBs i s).set i (some (.ow (.lst (ds.set j d))))) else none := by
    refine congrArg (Option.bind (fv (allV s))) (funext fun d => ?_)
    refine congrArg (fun z => if d.imm = true then z else none) ?_
    refine congrArg (Option.bind (fk (allV s))) (funext fun dk => ?_)
    exact mt2 (F := fun k ds => (ixN ds.length k).map fun j => Out.nx ((dropBs i s).set i (some (.ow (.lst (ds.set j d))))))
  rw [e, st0V_k, owA_kW]
  simp only [putO_b]
  generalize (kW s[i]?).bind kL = x
  rcases fv (allV s) with _ | d
  · show none = x.bind fun ds => ((fk (allV s)).bind kI).bind fun k => (none : Option Out)
    simp only [bind_no]
  · show (if d.imm = true then (fk (allV s)).bind fun dk => _ else none) = x.bind fun ds => ((fk (allV s)).bind kI).bind fun k => (if d.imm = true then some d else none).bind fun d => _
    split
    · rcases fk (allV s) with _ | k
      · simp only [Option.bind_none, bind_no]
      · simp only [Option.bind_some]
        cases kI k with
        | none => simp only [Option.bind_none, bind_no]
        | some k =>
          simp only [Option.bind_some]
          cases x with
          | none => rfl
          | some ds =>
            simp only [Option.bind_some]
            cases ixN ds.length k <;> rfl
    · simp only [Option.bind_none, bind_no]
theorem m_st1 {k j : Int} {d : D} {ds : List D} : ((ixN ds.length k).bind fun k' => (match ds[k']? with
      | some (.lst es) => if imms es = true then (ixN es.length j).map fun j' => Out.nx ((dropBs i s).set i (some (.ow (.lst (ds.set k' (.lst (es.set j' d))))))) else none
      | _ => none)) = putO i (st1V (some (.lst ds)) (some (.int k)) (some (.int j)) (some d)) s := by
  show _ = putO i ((ixN ds.length k).bind _) s
  cases ixN ds.length k with
  | none => rfl
  | some k' =>
    rw [Option.bind_some, Option.bind_some]
    cases ds[k']? with
    | none => rfl
    | some y =>
      cases y with
      | lst es =>
        dsimp only
        split
        · cases ixN es.length j <;> rfl
        · rfl
      | _ => rfl
theorem ev_st1 : st1 i fk fj fv s = putO i (st1V (owA i s) (fk (allV s)) (fj (allV s)) (immO (fv (allV s)))) s := by
  have e : st1 i fk fj fv s = (fv (allV s)).bind fun d => if d.imm = true then (fk (allV s)).bind fun dk => (fj (allV s)).bind fun dj => (kI dk).bind fun k => (kI dj).bind fun j => ((kW s[i]?).bind kL).bind fun ds => (ixN ds.length k).bind fun k' => (match ds[k']? with
      | some (.lst es) => if imms es = true then (ixN es.length j).map fun j' => .nx ((dropBs i s).set i (some (.ow (.lst (ds.set k' (.lst (es.set j' d))))))) else none
      | _ => none) else none := by
    refine congrArg (Option.bind (fv (allV s))) (funext fun d => ?_)
    refine congrArg (fun z => if d.imm = true then z else none) ?_
    refine congrArg (Option.bind (fk (allV s))) (funext fun dk => ?_)
    refine congrArg (Option.bind (fj (allV s))) (funext fun dj => ?_)
    exact mt3 (F := fun k j ds => (ixN ds.length k).bind fun k' => (match ds[k']? with
      | some (.lst es) => if imms es = true then (ixN es.length j).map fun j' => Out.nx ((dropBs i s).set i (some (.ow (.lst (ds.set k' (.lst (es.set j' d))))))) else none
      | _ => none))
  rw [e, st1V_k, owA_kW]
  simp only [putO_b]
  generalize (kW s[i]?).bind kL = x
  rcases fv (allV s) with _ | d
  · show none = x.bind fun ds => ((fk (allV s)).bind kI).bind fun k => ((fj (allV s)).bind kI).bind fun j => (none : Option Out)
    simp only [bind_no]
  · show (if d.imm = true then (fk (allV s)).bind fun dk => _ else none) = x.bind fun ds => ((fk (allV s)).bind kI).bind fun k => ((fj (allV s)).bind kI).bind fun j => (if d.imm = true then some d else none).bind fun d => _
    split
    · rcases fk (allV s) with _ | k
      · simp only [Option.bind_none, bind_no]
      · simp only [Option.bind_some]
        rcases fj (allV s) with _ | j
        · simp only [Option.bind_none, bind_no]
        · simp only [Option.bind_some]
          cases kI k with
          | none => simp only [Option.bind_none, bind_no]
          | some k =>
            cases kI j with
            | none => simp only [Option.bind_none, Option.bind_some, bind_no]
            | some j =>
              simp only [Option.bind_some]
              cases x with
              | none => rfl
              | some ds =>
                have := m_st1 (i := i) (s := s) (k := k) (j := j) (d := d) (ds := ds)
                rw [st1V_k] at this
                simp only [Option.bind_some, putO_b, kL, kI] at this
                simp only [Option.bind_some]
                exact this
    · simp only [Option.bind_none, bind_no]
theorem ev_m0 : m0 i M fl s = putO i (m0V M (owA i s) (immsO (dArgs fl (allV s)))) s := by
  unfold m0 owA
  rcases dArgs fl (allV s) with _ | args
  · rcases s[i]? with _ | _ | ⟨x | x | ⟨r, x⟩⟩ <;> (first | rfl | (cases x <;> rfl))
  · show (if imms args = true then _ else _) = putO i (m0V M _ (if imms args = true then some args else none)) s
    split
    · rcases s[i]? with _ | _ | ⟨x | x | ⟨r, x⟩⟩ <;> (first | rfl | (cases x <;> first | rfl | (rename_i ds; show Option.map _ (M ds args) = putO i (Option.map _ (M ds args)) s; cases M ds args <;> rfl)))
    · rcases s[i]? with _ | _ | ⟨x | x | ⟨r, x⟩⟩ <;> (first | rfl | (cases x <;> rfl))
theorem m_m1 {k : Int} {ds args : List D} : ((ixN ds.length k).bind fun j => (match ds[j]? with
      | some (.lst es) => if imms es = true then (M es args).bind fun es' => if imms es' = true then some (Out.nx ((dropBs i s).set i (some (.ow (.lst (ds.set j (.lst es'))))))) else none else none
      | _ => none)) = putO i (m1V M (some (.lst ds)) (some (.int k)) (some args)) s := by
  show _ = putO i ((ixN ds.length k).bind _) s
  cases ixN ds.length k with
  | none => rfl
  | some k' =>
    rw [Option.bind_some, Option.bind_some]
    cases ds[k']? with
    | none => rfl
    | some y =>
      cases y with
      | lst es =>
        dsimp only
        split
        · cases M es args with
          | none => rfl
          | some es' =>
            show (if imms es' = true then _ else _) = putO i (Option.map _ (if imms es' = true then _ else _)) s
            split <;> rfl
        · rfl
      | _ => rfl
theorem ev_m1 : m1 i fk M fl s = putO i (m1V M (owA i s) (fk (allV s)) (immsO (dArgs fl (allV s)))) s := by
  unfold m1 owA
  rcases dArgs fl (allV s) with _ | args
  · rcases fk (allV s) with _ | (_ | _ | _ | _ | _ | _ | _ | _) <;> rcases s[i]? with _ | _ | ⟨x | x | ⟨r, x⟩⟩ <;> (first | rfl | (cases x <;> rfl))
  · show _ = putO i (m1V M _ _ (if imms args = true then some args else none)) s
    by_cases h : imms args = true
    · rw [if_pos h]
      rcases fk (allV s) with _ | (_ | _ | k | _ | _ | _ | _ | _) <;> rcases s[i]? with _ | _ | ⟨x | x | ⟨r, x⟩⟩ <;> (first | rfl | (cases x <;> first | rfl | exact (if_pos h).trans m_m1 | exact if_pos h) | exact if_pos h)
    · rw [if_neg h]
      rcases fk (allV s) with _ | (_ | _ | k | _ | _ | _ | _ | _) <;> rcases s[i]? with _ | _ | ⟨x | x | ⟨r, x⟩⟩ <;> (first | rfl | (cases x <;> first | rfl | exact if_neg h) | exact if_neg h)
theorem ev_asgM {M : List D → Option D} : asgM i M fl s = putO i (mMV M (owA i s) (immsO (dArgs fl (allV s)))) s := by
  unfold asgM owA
  rcases dArgs fl (allV s) with _ | args
  · rcases s[i]? with _ | _ | ⟨x | x | ⟨r, x⟩⟩ <;> rfl
  · show (if imms args = true then _ else _) = putO i (mMV M _ (if imms args = true then some args else none)) s
    split
    · rcases s[i]? with _ | _ | ⟨x | x | ⟨r, x⟩⟩ <;> first | rfl | (show Option.map _ (M (x :: args)) = putO i (M (x :: args)) s; cases M (x :: args) <;> rfl)
    · rcases s[i]? with _ | _ | ⟨x | x | ⟨r, x⟩⟩ <;> rfl
theorem ev_app0N : app0N i f s = putO i (m0V appF (owA i s) (consA (f (allV s)) (some []))) s := by
  unfold app0N owA
  rcases f (allV s) with _ | d
  · rcases s[i]? with _ | _ | ⟨x | x | ⟨r, x⟩⟩ <;> (first | rfl | (cases x <;> rfl))
  · rcases s[i]? with _ | _ | ⟨x | x | ⟨r, x⟩⟩ <;> (first | rfl | (cases x <;> first | rfl | (rename_i ds; show Option.map _ (appF ds [d]) = putO i (Option.map _ (appF ds [d])) s; cases appF ds [d] <;> rfl)))
theorem ev_ins0N : ins0N i f g s = putO i (m0V insF (owA i s) (consA (immO (f (allV s))) (consA (g (allV s)) (some [])))) s := by
  unfold ins0N owA
  rcases f (allV s) with _ | k
  · rcases s[i]? with _ | _ | ⟨x | x | ⟨r, x⟩⟩ <;> (first | rfl | (cases x <;> rfl))
  · show (if k.imm = true then _ else _) = putO i (m0V insF _ (consA (if k.imm = true then some k else none) _)) s
    split
    · rcases g (allV s) with _ | d
      · rcases s[i]? with _ | _ | ⟨x | x | ⟨r, x⟩⟩ <;> (first | rfl | (cases x <;> rfl))
      · rcases s[i]? with _ | _ | ⟨x | x | ⟨r, x⟩⟩ <;> (first | rfl | (cases x <;> first | rfl | (rename_i ds; show Option.map _ (insF ds [k, d]) = putO i (Option.map _ (insF ds [k, d])) s; cases insF ds [k, d] <;> rfl)))
    · rcases s[i]? with _ | _ | ⟨x | x | ⟨r, x⟩⟩ <;> (first | rfl | (cases x <;> rfl))
end
theorem es_v1 {d : D} : (SD.sh d).val = d := (rfl)
theorem es_v2 {d : D} : (SD.ow d).val = d := (rfl)
theorem ea_all {bs : List Bool} : allF [.lst (bs.map bD)] = some (.bl (bs.all fun b => b)) := by
  show (bools (bs.map bD)).map (fun bs => D.bl (bs.all fun b => b)) = _
  rw [bools_map]
  rfl
theorem ea_any {bs : List Bool} : anyF [.lst (bs.map bD)] = some (.bl (bs.any fun b => b)) := by
  show (bools (bs.map bD)).map (fun bs => D.bl (bs.any fun b => b)) = _
  rw [bools_map]
  rfl
theorem ints_map : ∀ ns : List Int, ints' (ns.map D.int) = some ns
  | [] => rfl
  | n :: ns => by
    show (ints' (ns.map D.int)).map (n :: ·) = _
    rw [ints_map ns]
    rfl
theorem ea_sum {ns : List Int} : sumF [.lst (ns.map .int)] = some (.int ns.sum) := by
  show (ints' (ns.map D.int)).map (fun ns => D.int ns.sum) = _
  rw [ints_map]
  rfl
/-! tables -/
theorem st1_tabV {T : List (List Bool)} {a b : Nat} {v : Bool} (ha : a < T.length) (hb : b < T[a].length) : st1V (some (tabD T)) (some (.int (a : Int))) (some (.int (b : Int))) (some (.bl v)) = some (tabD (T.set a (T[a].set b v))) := by
  show ((ixN (T.map rowD).length (a : Int)).bind fun k' => (match (T.map rowD)[k']? with
    | some (.lst es) => if imms es = true then (ixN es.length (b : Int)).map fun j' => D.lst ((T.map rowD).set k' (.lst (es.set j' (.bl v)))) else none
    | _ => none)) = _
  rw [ixN_nat (by simpa using ha), Option.bind_some]
  have e1 : (T.map rowD)[a]? = some (.lst (T[a].map bD)) := by rw [List.getElem?_map, List.getElem?_eq_getElem ha]; rfl
  rw [e1]
  dsimp only
  rw [if_pos (imms_map_bD _), ixN_nat (by simpa using hb), Option.map_some]
  unfold tabD
  rw [List.map_set]
  unfold rowD
  rw [List.map_set]
  rfl
theorem erase_map {α β : Type} {f : α → β} : ∀ {xs : List α} {i : Nat}, (xs.map f).eraseIdx i = (xs.eraseIdx i).map f
  | [], _ => rfl
  | _ :: _, 0 => rfl
  | x :: r, i + 1 => congrArg (f x :: ·) (erase_map (xs := r) (i := i))
theorem pow_lit (n : Nat) (h : n ≤ 1000) : powI (.int 10) (.int (n : Int)) = some (.int (10 ^ n)) := by
  rw [ea_pow (show CPow 10 (n : Int) from ⟨by omega, by omega, by decide⟩), Int.toNat_natCast]
theorem len_tab {T : List (List Bool)} : lenF [tabD T] = some (.int (T.length : Int)) := by
  show some (D.int ((T.map rowD).length : Nat)) = _
  rw [List.length_map]
theorem ix_tab {T : List (List Bool)} {k : Nat} (h : k < T.length) : ixD (tabD T) (.int (k : Int)) = some (rowD T[k]) := tab_ix h
theorem ix_row {r : List Bool} {k : Nat} (h : k < r.length) : ixD (rowD r) (.int (k : Int)) = some (.bl r[k]) := row_ix h
theorem mod_nat {x : Int} {n : Nat} (h : 0 < n) : ∃ a : Nat, x % (n : Int) = (a : Int) ∧ a < n := by
  have h1 := Int.emod_nonneg x (show (n : Int) ≠ 0 by omega)
  have h2 := Int.emod_lt_of_pos x (show (0 : Int) < n by omega)
  exact ⟨(x % (n : Int)).toNat, by omega, by omega⟩
/-! comprehensions, by what each item comes to -/
theorem comp_of {α : Type} {enc : α → D} {c : DS → Option Bool} {f : DE} {δ : DS} (p : α → Bool) (g : α → D) : ∀ {xs : List α}, (∀ x ∈ xs, c (δ ++ [some (enc x)]) = some (p x)) → (∀ x ∈ xs, p x = true → f (δ ++ [some (enc x)]) = some (g x)) → compL (compF c f δ) (xs.map enc) = some ((xs.filter p).map g)
  | [], _, _ => rfl
  | x :: r, hc, hf => by
    have ih := comp_of (xs := r) p g (fun y hy => hc y (List.mem_cons_of_mem _ hy)) fun y hy => hf y (List.mem_cons_of_mem _ hy)
    rw [List.map_cons]
    unfold compL
    rw [ih]
    unfold compF
    rw [hc x List.mem_cons_self]
    cases hp : p x with
    | true =>
      show ((if true = true then (f (δ ++ [some (enc x)])).map some else some none).bind _) = _
      rw [if_pos rfl, hf x List.mem_cons_self hp, List.filter_cons_of_pos hp]
      rfl
    | false =>
      rw [List.filter_cons_of_neg (by rw [hp]; exact Bool.false_ne_true)]
      rfl
theorem comp_ofAll {α : Type} {enc : α → D} {f : DE} {δ : DS} (g : α → D) {xs : List α} (hf : ∀ x ∈ xs, f (δ ++ [some (enc x)]) = some (g x)) : compL (compF dYes f δ) (xs.map enc) = some (xs.map g) := by
  rw [comp_of (fun _ => true) g (fun _ _ => rfl) fun x hx _ => hf x hx, List.filter_eq_self.mpr fun _ _ => rfl]
/-! ints as natural numbers; indexes -/
def nD (n : Nat) : D := .int (n : Int)
theorem rng_nat {n : Nat} : rngL 0 n = (List.range n).map nD := by
  unfold rngL nD
  refine List.map_congr_left fun k _ => ?_
  rw [Int.zero_add]
theorem at_nat {α : Type} {xs : List α} {k : Nat} (h : k < xs.length) : atI xs (k : Int) = some xs[k] := atI_nat (List.getElem?_eq_getElem h)
theorem ixN_of {n k : Nat} (h : k < n) : ixN n (k : Int) = some k := ixN_nat h
end L2

/-! ### M6: ballots -/
namespace L2
open PySem
def smallO : Option (List D) → Option (List D)
  | some ds => if ds.length ≤ sizeLine then some ds else none
  | none => none
theorem ev_small {g : DS → Option (List D)} {δ : DS} : dSmall g δ = smallO (g δ) := by
  unfold dSmall smallO
  cases g δ <;> rfl
theorem eo_small {ds : List D} (h : ds.length ≤ 1000000) : smallO (some ds) = some ds := if_pos (small_line h)
theorem ea_intI {n : Int} : intF [.int n] = some (.int n) := (rfl)
theorem ea_intB {k : Bool} : intF [.bl k] = some (.int (if k = true then 1 else 0)) := (rfl)
theorem imms_int : ∀ o : List Int, imms (o.map D.int) = true
  | [] => rfl
  | n :: o => by
    show (true && imms (o.map D.int)) = true
    rw [imms_int o]
    rfl
theorem lay_ints : ∀ o : List Int, PyData.canLayAll0 (toPs (o.map D.int)) = true
  | [] => rfl
  | n :: o => by
    show (true && PyData.canLayAll0 (toPs (o.map D.int))) = true
    rw [lay_ints o]
    rfl
theorem dep_ints : ∀ o : List Int, PyData.depthAll (toPs (o.map D.int)) = 0
  | [] => rfl
  | n :: o => by
    show max 0 (PyData.depthAll (toPs (o.map D.int))) = 0
    rw [dep_ints o]
    rfl
theorem hol_bindO {x : Option Out} {b : SS → Option Out} {I : SS → Prop} {Q : Out → Prop} (h : hol x fun o => ∃ s, o = .nx s ∧ I s) (k : ∀ s, I s → hol (b s) Q) : hol (bindO x b) Q := by
  obtain ⟨o, rfl, s, rfl, q⟩ := h
  exact k s q
def rngI (m : Nat) : List Int := (List.range m).map fun k => ((k : Nat) : Int)
/-- votes as they are drawn -/
structure Good (m : Nat) (b : Int × List Int) : Prop where
  lo : 1 ≤ b.1
  hi : b.1 ≤ 10 ^ 30
  perm : b.2.Perm (rngI m)
theorem Good.mem {m : Nat} {b : Int × List Int} (h : Good m b) {k : Nat} (hk : k < m) : ((k : Nat) : Int) ∈ b.2 := h.perm.mem_iff.mpr (List.mem_map.mpr ⟨k, List.mem_range.mpr hk, rfl⟩)
/-! the place of a thing in an order -/
end L2

/-! ### M7: tables read by places; lists of things -/
namespace L2
open PySem
def at2 (T : List (List Bool)) (i j : Nat) : Bool := (T.getD i []).getD j false
def thD (th : List Nat) : D := .lst (th.map nD)
theorem ix_tab' {T : List (List Bool)} {i : Nat} (h : i < T.length) : ixD (tabD T) (.int (i : Int)) = some (rowD (T.getD i [])) := by
  rw [ix_tab h]
  simp [List.getD, List.getElem?_eq_getElem h]
theorem ix_row' {r : List Bool} {j : Nat} (h : j < r.length) : ixD (rowD r) (.int (j : Int)) = some (.bl (r.getD j false)) := by
  rw [ix_row h]
  simp [List.getD, List.getElem?_eq_getElem h]
theorem Sq.len {n : Nat} {T : List (List Bool)} (h : Sq n T) {i : Nat} (hi : i < n) : (T.getD i []).length = n := by
  have h1 : i < T.length := by rw [h.1]; exact hi
  have : T.getD i [] = T[i] := by simp [List.getD, List.getElem?_eq_getElem h1]
  rw [this]
  exact h.row h1
theorem ix2 {n : Nat} {T : List (List Bool)} (h : Sq n T) {i j : Nat} (hi : i < n) (hj : j < n) : o2 ixD (ixD (tabD T) (.int (i : Int))) (some (.int (j : Int))) = some (.bl (at2 T i j)) := by
  rw [ix_tab' (by rw [h.1]; exact hi), eo_2, ix_row' (by rw [h.len hi]; exact hj)]
  rfl
def gridT (th : List Nat) (f : Nat → Nat → Bool) : List (List Bool) := th.map fun i => th.map fun j => f i j
theorem getD_map {α β : Type} {f : α → β} {xs : List α} {i : Nat} {d : β} (h : i < xs.length) : (xs.map f).getD i d = f xs[i] := by
  simp [List.getD, h]
theorem sq_grid {th : List Nat} {f : Nat → Nat → Bool} : Sq th.length (gridT th f) := by
  refine ⟨by simp [gridT], fun r hr => ?_⟩
  obtain ⟨i, _, rfl⟩ := List.mem_map.mp hr
  simp
theorem grid_of {n : Nat} {T : List (List Bool)} (h : Sq n T) : gridT (List.range n) (at2 T) = T := by
  unfold gridT
  apply List.ext_getElem
  · simp [h.1]
  · intro i h1 h2
    have hi : i < n := by simpa using h1
    rw [List.getElem_map]
    have hrow : T[i].length = n := h.row h2
    apply List.ext_getElem
    · simp [hrow]
    · intro j h3 h4
      have hj : j < n := by simpa using h3
      rw [List.getElem_map]
      unfold at2
      simp [List.getD, List.getElem?_eq_getElem h2, List.getElem?_eq_getElem h4]
theorem seq_tab {T : List (List Bool)} : seqD (tabD T) = some (T.map rowD) := (rfl)
theorem seq_th {th : List Nat} : seqD (thD th) = some (th.map nD) := (rfl)
theorem len_th {th : List Nat} : lenF [thD th] = some (.int (th.length : Int)) := by
  show some (D.int ((th.map nD).length : Nat)) = _
  rw [List.length_map]
theorem imms_n : ∀ th : List Nat, imms (th.map nD) = true
  | [] => rfl
  | n :: th => by
    show (true && imms (th.map nD)) = true
    rw [imms_n th]
    rfl
theorem okP_th (th : List Nat) : okP (thD th) = true := by
  have e : th.map nD = (th.map fun n => ((n : Nat) : Int)).map D.int := by rw [List.map_map]; rfl
  unfold okP thD
  rw [e, Bool.and_eq_true, decide_eq_true_eq]
  refine ⟨lay_ints _, ?_⟩
  show PyData.depthAll (toPs ((th.map fun n => ((n : Nat) : Int)).map D.int)) + 1 ≤ 60
  rw [dep_ints]
  decide
theorem ne_self {d : D} (h : okP d = true) : neD d d = some (.bl false) := by
  unfold neD
  rw [h]
  show (if (true && true) = true then some (D.bl (!PyData.eqv (toP d) (toP d))) else none) = _
  rw [if_pos (show (true && true) = true from rfl), SeqAt.eqv_refl _ (okP_get h).1]
  rfl
/-! pairs of a number and an item -/
theorem ev_comp2 {fi : DS → Option (List D)} {c : DS → Option Bool} {f : DE} {δ : DS} : dComp2 fi c f δ = compX (fi δ) (two (compG c f δ)) := by
  unfold dComp2 compX
  cases fi δ <;> rfl
theorem ev_enum {f : DE} {δ : DS} : dEnum f δ = (f δ).bind enumS := (rfl)
def trueAt (k : Nat) : List Bool → List Nat
  | [] => []
  | b :: r => if b = true then k :: trueAt (k + 1) r else trueAt (k + 1) r
theorem true_eq : ∀ {r : List Bool} {k : Nat}, trueAt k r = (List.range' k r.length).filter fun i => r.getD (i - k) false
  | [], _ => rfl
  | b :: r, k => by
    have ih := true_eq (r := r) (k := k + 1)
    unfold trueAt
    rw [List.length_cons, List.range'_succ]
    have e : (List.range' (k + 1) r.length).filter (fun i => (b :: r).getD (i - k) false) = (List.range' (k + 1) r.length).filter fun i => r.getD (i - (k + 1)) false := by
      apply List.filter_congr
      intro i hi
      have := (List.mem_range'_1.mp hi).1
      have e : i - k = (i - (k + 1)) + 1 := by omega
      rw [e]
      rfl
    cases b with
    | true =>
      rw [List.filter_cons_of_pos (by simp), e, ih]
      rfl
    | false =>
      rw [List.filter_cons_of_neg (by simp), e, ih]
      rfl
theorem enum_len' : ∀ {ds : List D} {k : Nat}, (enumFrom k ds).length = ds.length
  | [], _ => rfl
  | d :: r, k => by show (enumFrom (k + 1) r).length + 1 = r.length + 1; rw [enum_len']
end L2

/-! ### M8: dicts, turned and joined lists; the table of votes -/
namespace L2
open PySem
def chO (F G : D → D → Option D) (x y z : Option D) : Option D := match x, y with
  | some x, some y => match F x y with
    | some (.bl true) => z.bind fun z => G y z
    | some (.bl false) => some (.bl false)
    | _ => none
  | _, _ => none
theorem ev_chain {F G : D → D → Option D} {f g h : DE} {δ : DS} : dChain F G f g h δ = chO F G (f δ) (g δ) (h δ) := by
  unfold dChain chO
  cases f δ <;> cases g δ <;> rfl
def inO : Option D → Option D → Option Bool
  | some x, some y => inK x y
  | _, _ => none
theorem ev_din' {f g : DE} {δ : DS} : dDIn f g δ = inO (f δ) (g δ) := by
  unfold dDIn inO
  cases f δ <;> cases g δ <;> rfl
theorem eo_in {x y : D} : inO (some x) (some y) = inK x y := (rfl)
theorem ev_dnin {f g : DE} {δ : DS} : dDNin f g δ = (dDIn f g δ).map (!·) := (rfl)
def dputV (o k v : Option D) : Option D := match o, k, v with
  | some (.dct ks ds), some dk, some d => (keyD dk).bind fun k => if imms ds = true ∧ ks.length < sizeLine then some (.dct (putKs ks k) (putDs ks ds k d)) else none
  | _, _, _ => none
theorem m_dput {i : Nat} {s : SS} {dk d : D} {ks : List Key} {ds : List D} : (match keyD dk, (some (some (SD.ow (.dct ks ds))) : Option (Option SD)) with
      | some k, some (some (.ow (.dct ks ds))) => if imms ds = true ∧ ks.length < sizeLine then some (Out.nx ((dropBs i s).set i (some (.ow (.dct (putKs ks k) (putDs ks ds k d)))))) else none
      | _, _ => none) = putO i (dputV (some (.dct ks ds)) (some dk) (some d)) s := by
  show _ = putO i ((keyD dk).bind _) s
  cases keyD dk with
  | none => rfl
  | some k =>
    show (if imms ds = true ∧ ks.length < sizeLine then _ else _) = putO i (if imms ds = true ∧ ks.length < sizeLine then _ else _) s
    split <;> rfl
theorem ev_dput {i : Nat} {fk fv : DE} {s : SS} : dput i fk fv s = putO i (dputV (owA i s) (fk (allV s)) (immO (fv (allV s)))) s := by
  unfold dput owA
  rcases fv (allV s) with _ | d
  · rcases fk (allV s) with _ | dk <;> rcases s[i]? with _ | _ | ⟨x | x | ⟨r, x⟩⟩ <;> (first | rfl | (cases x <;> rfl))
  · show (if d.imm = true then _ else _) = putO i (dputV _ _ (if d.imm = true then some d else none)) s
    split
    · rcases fk (allV s) with _ | dk
      · rcases s[i]? with _ | _ | ⟨x | x | ⟨r, x⟩⟩ <;> (first | rfl | (cases x <;> rfl))
      · rw [Option.bind_some]
        rcases s[i]? with _ | _ | ⟨x | x | ⟨r, x⟩⟩
        · cases keyD dk <;> rfl
        · cases keyD dk <;> rfl
        · cases keyD dk <;> rfl
        · cases x with
          | dct ks ds => exact m_dput
          | _ => (cases keyD dk <;> rfl)
        · cases keyD dk <;> rfl
    · rcases fk (allV s) with _ | dk <;> rcases s[i]? with _ | _ | ⟨x | x | ⟨r, x⟩⟩ <;> (first | rfl | (cases x <;> rfl))
def exO (x : Option D) (s : SS) : Option Out := match x with
  | some _ => some (.nx s)
  | none => none
theorem ev_exprN {f : DE} {s : SS} : exprN f s = exO (f (allV s)) s := by
  unfold exprN exO
  cases f (allV s) <;> rfl
theorem eo_ex {d : D} {s : SS} : exO (some d) s = some (.nx s) := (rfl)
def catO : Option D → Option D → Option (List D)
  | some x, some y => catLs x y
  | _, _ => none
theorem ev_cat {f g : DE} {δ : DS} : dCat f g δ = catO (f δ) (g δ) := by
  unfold dCat catO
  cases f δ <;> cases g δ <;> rfl
def revO : Option D → Option D → Option (List D)
  | some x, some y => revLs x y
  | _, _ => none
theorem ev_revL {f g : DE} {δ : DS} : dRevL f g δ = revO (f δ) (g δ) := by
  unfold dRevL revO
  cases f δ <;> cases g δ <;> rfl
theorem eo_revL {ds : List D} : revO (some (.lst ds)) (some (.int (-1))) = some ds.reverse := (rfl)
theorem ea_revT {ds : List D} : revT (.tup ds) (.int (-1)) = some (.tup ds.reverse) := (rfl)
theorem ea_max {i j : Int} : maxF [.int i, .int j] = some (.int (if j > i then j else i)) := (rfl)
theorem eo_cat {ds es : List D} (h : ds.length + es.length ≤ 1000000) : catO (some (.lst ds)) (some (.lst es)) = some (ds ++ es) := if_pos (small_line h)
theorem es_frz0 {d : D} {r : SS} : frzS 0 (some (.ow d) :: r) = some (.sh d) :: r := (rfl)
theorem es_frzS {i : Nat} {x : Option SD} {r : SS} : frzS (i + 1) (x :: r) = x :: frzS i r := by
  unfold frzS
  rw [List.getElem?_cons_succ]
  rcases r[i]? with _ | _ | ⟨y | y | ⟨q, y⟩⟩ <;> rfl
/-! a dict of things told -/
/-! the table of votes -/
theorem Good.len {m : Nat} {b : Int × List Int} (h : Good m b) : b.2.length = m := by
  have := h.perm.length_eq
  simpa [rngI] using this
end L2

/-! ### M9: clear, extend, sorted, reversed, range with a step; sums -/
namespace Prg
open PySem L2
def clrV : Option D → Option D
  | some (.lst _) => some (.lst [])
  | _ => none
def extV (o x : Option D) : Option D := match x, o with
  | some (.lst es), some (.lst ds) => if ds.length + es.length ≤ sizeLine then some (.lst (ds ++ es)) else none
  | _, _ => none
theorem ev_clr0 {i : Nat} {s : SS} : clr0 i s = putO i (clrV (owA i s)) s := by
  unfold clr0 owA
  rcases s[i]? with _ | _ | ⟨x | x | ⟨r, x⟩⟩ <;> (first | rfl | (cases x <;> rfl))
theorem ev_ext0N {i : Nat} {f : DE} {s : SS} : ext0N i f s = putO i (extV (owA i s) (f (allV s))) s := by
  unfold ext0N owA
  rcases f (allV s) with _ | d
  · rcases s[i]? with _ | _ | ⟨x | x | ⟨r, x⟩⟩ <;> (first | rfl | (cases x <;> rfl))
  · rcases s[i]? with _ | _ | ⟨x | x | ⟨r, x⟩⟩ <;> cases d <;> (first | rfl | (cases x <;> first | rfl | skip))
    rename_i es ds
    show (if ds.length + es.length ≤ sizeLine then some _ else none) = putO i (if ds.length + es.length ≤ sizeLine then some _ else none) s
    split <;> rfl
theorem eo_clr {ds : List D} : clrV (some (.lst ds)) = some (.lst []) := (rfl)
theorem ev_rng3 {f g h : DE} {δ : DS} : dRng3 f g h δ = rng3 (f δ) (g δ) (h δ) := (rfl)
theorem ev_isN {f : DE} {δ : DS} : dIsN f δ = (f δ).map isN := (rfl)
theorem ev_notN {f : DE} {δ : DS} : dNotN f δ = (f δ).map fun d => !isN d := (rfl)
theorem ea_isB {b c : Bool} : isB (.bl b) (.bl c) = some (.bl (b == c)) := (rfl)
theorem ea_notB {b c : Bool} : notB (.bl b) (.bl c) = some (.bl (b != c)) := (rfl)
theorem ea_revF {ds : List D} : revF [.lst ds] = some ds.reverse := (rfl)
/-! sums -/
def sm (f : Nat → Nat) : Nat → Nat
  | 0 => 0
  | n + 1 => sm f n + f n
theorem sum_congr {β : Type} {f g : β → Int} : ∀ {L : List β}, (∀ x ∈ L, f x = g x) → (L.map f).sum = (L.map g).sum
  | [], _ => rfl
  | x :: L, h => by
    rw [List.map_cons, List.map_cons, List.sum_cons, List.sum_cons, h x List.mem_cons_self, sum_congr fun y hy => h y (List.mem_cons_of_mem _ hy)]
end Prg

/-! ### M10: comprehensions in place, loops that leave, things in lists -/
namespace L2
open PySem
theorem cx_of {α : Type} {enc : α → D} {c : DS → Option Bool} {f : DE} {δ : DS} (p : α → Bool) (g : α → D) {xs : List α} (hl : xs.length ≤ 1000) (hc : ∀ x ∈ xs, c (δ ++ [some (enc x)]) = some (p x)) (hf : ∀ x ∈ xs, p x = true → f (δ ++ [some (enc x)]) = some (g x)) : compX (some (xs.map enc)) (compF c f δ) = some ((xs.filter p).map g) := by
  rw [eo_comp (by rw [List.length_map]; omega)]
  exact comp_of p g hc hf
theorem cx_all {α : Type} {enc : α → D} {f : DE} {δ : DS} (g : α → D) {xs : List α} (hl : xs.length ≤ 1000) (hf : ∀ x ∈ xs, f (δ ++ [some (enc x)]) = some (g x)) : compX (some (xs.map enc)) (compF dYes f δ) = some (xs.map g) := by
  rw [eo_comp (by rw [List.length_map]; omega)]
  exact comp_ofAll g hf
theorem fil_succ {p : Nat → Bool} {k : Nat} : (List.range (k + 1)).filter p = (List.range k).filter p ++ if p k = true then [k] else [] := by rw [List.range_succ, List.filter_append, List.filter_cons, List.filter_nil]
theorem rng1_nat {m : Nat} (h : m ≤ 1000000) : rng1 (some (.int (m : Int))) = some (rngL 0 m) := by rw [eo_rng1 (by omega)]; rfl
theorem mem_ths {a : Nat} {th : List Nat} : memD (.int (a : Int)) (thD th) = some (th.contains a) := by
  unfold thD memD
  show (if (okP (.int (a : Int)) && okP (.lst (th.map nD))) = true then _ else none) = _
  rw [show okP (.lst (th.map nD)) = true from okP_th th, show okP (.int (a : Int)) = true from rfl]
  show some ((th.map nD).any fun y => PyData.eqv (toP y) (toP (.int (a : Int)))) = _
  congr 1
  rw [List.any_map, List.contains_eq_any_beq]
  congr 1
  funext x
  show decide ((x : Int) = (a : Int)) = (a == x)
  by_cases h : x = a
  · subst h; simp
  · have : ¬ a = x := fun e => h e.symm
    have h2 : ¬ (x : Int) = (a : Int) := by omega
    simp [this, h2]
theorem nin_ths {a : Nat} {th : List Nat} : ninD (.int (a : Int)) (thD th) = some (.bl (!th.contains a)) := by
  unfold ninD
  rw [mem_ths]
  rfl
theorem cat_th {a b : List Nat} (h : a.length + b.length ≤ 1000000) : catO (some (thD a)) (some (thD b)) = some ((a ++ b).map nD) := by
  show catO (some (.lst (a.map nD))) (some (.lst (b.map nD))) = _
  rw [eo_cat (by rw [List.length_map, List.length_map]; exact h), List.map_append]
theorem th_lst (o : List Nat) : D.lst (o.map nD) = thD o := (rfl)
theorem flat_th (o : List Nat) : flatO (some (o.map nD)) = some (o.map nD) := eo_flat (imms_n o)
/-! loops that leave with one answer -/
/-! x = y, taken over -/
def movX (x : Option D) (i j : Nat) (s : SS) : Option Out := match x with
  | some d => some (.nx (((dropBs j s).set j none).set i (some (.ow d))))
  | none => none
theorem ev_mov {i j : Nat} {s : SS} : movO i j s = movX (owA j s) i j s := by
  unfold movO owA movX
  generalize s[j]? = z
  rcases z with _ | _ | x
  · rfl
  · rfl
  · cases x <;> rfl
theorem eo_mov {d : D} {i j : Nat} {s : SS} : movX (some d) i j s = some (.nx (((dropBs j s).set j none).set i (some (.ow d)))) := (rfl)
/-! while -/
theorem while_hol {c : DS → Option Bool} {b : SS → Option Out} {QO : Out → Prop} (I : Nat → SS → Prop) : ∀ {n : Nat} {s : SS}, I n s → (∀ n δ, I n δ → ∃ k, c (allV δ) = some k ∧ (k = false → QO (.nx δ)) ∧ (k = true → ∃ n', n = n' + 1 ∧ hol (b δ) fun o => match o with | .nx δ' => I n' δ' | .ct δ' => I n' δ' | .bk δ' => QO (.nx δ') | .rt d => QO (.rt d) | .ex e δ' => QO (.ex e δ'))) → ∀ {f : Nat}, n < f → hol (whileD c b f s) QO
  | n, s, h0, hs, 0, hf => absurd hf (by omega)
  | n, s, h0, hs, f + 1, hf => by
    obtain ⟨k, ec, h1, h2⟩ := hs n s h0
    unfold whileD
    rw [ec]
    cases k with
    | false => exact ⟨_, rfl, h1 rfl⟩
    | true =>
      obtain ⟨n', rfl, o, eb, q⟩ := h2 rfl
      show hol ((b s).bind _) QO
      rw [eb]
      cases o with
      | nx s1 => exact while_hol I q hs (by omega)
      | ct s1 => exact while_hol I q hs (by omega)
      | bk s1 => exact ⟨_, rfl, q⟩
      | rt d => exact ⟨_, rfl, q⟩
      | ex e s1 => exact ⟨_, rfl, q⟩
/-! reversed, parts from the end -/
theorem ev_revS {f : DE} {δ : DS} : dRevS f δ = (f δ).bind revS := (rfl)
/-! loops that only look -/
def ckO (b : Option Bool) (x : Option D) : Option (Option D) := match b with
  | some true => x.bind fun d => if d.imm = true then some (some d) else none
  | some false => some none
  | none => none
theorem ev_chkIf {fc : DS → Option Bool} {fe : DE} {δ : DS} : chkIf fc fe δ = ckO (fc δ) (fe δ) := by
  unfold chkIf ckO
  generalize fc δ = b
  rcases b with _ | _ | _ <;> rfl
theorem eo_ckf {x : Option D} : ckO (some false) x = some none := (rfl)
def csO (x y : Option (Option D)) : Option (Option D) := match x with
  | some none => y
  | some (some d) => some (some d)
  | none => none
theorem ev_chkSeq {f g : DS → Option (Option D)} {δ : DS} : chkSeq f g δ = csO (f δ) (g δ) := by
  unfold chkSeq csO
  generalize f δ = b
  rcases b with _ | _ | _ <;> rfl
theorem eo_csn {y : Option (Option D)} : csO (some none) y = y := (rfl)
def chkX (i : Nat) (ds : Option (List D)) (fb : DS → Option (Option D)) (s : SS) : Option Out := match ds with
  | some ds => if imms ds = true then chkD i fb ds s else none
  | none => none
theorem ev_forC {i : Nat} {fi : DS → Option (List D)} {fb : DS → Option (Option D)} {s : SS} : forC i fi fb s = chkX i (fi (allV s)) fb s := by
  unfold forC chkX
  generalize fi (allV s) = b
  rcases b with _ | _ <;> rfl
/-! exceptions -/
def rsX (c : Nat) (x : Option D) (s : SS) : Option Out := match x with
  | some _ => some (.ex c s)
  | none => none
theorem ev_raise {c : Nat} {f : DE} {s : SS} : raiseO c f s = rsX c (f (allV s)) s := by
  unfold raiseO rsX
  generalize f (allV s) = x
  cases x <;> rfl
theorem eo_raise {c : Nat} {d : D} {s : SS} : rsX c (some d) s = some (.ex c s) := (rfl)
theorem ev_callX {m : List D → Option XO} {fl : List DE} {δ : DS} : dCallX m fl δ = (dArgs fl δ).bind m := (rfl)
theorem ev_callV {m : List D → Option XO} {fl : List DE} {δ : DS} : dCallV m fl δ = valO ((dArgs fl δ).bind m) := (rfl)
theorem ev_callM {F : List D → Option D} {f0 : DE} {fl : List DE} {δ : DS} : dCallM F f0 fl δ = mMV F (f0 δ) (immsO (dArgs fl δ)) := by
  unfold dCallM
  cases f0 δ with
  | none => rfl
  | some d0 =>
    cases dArgs fl δ with
    | none => rfl
    | some args =>
      show (if imms args = true then F (d0 :: args) else none) = mMV F (some d0) (if imms args = true then some args else none)
      split <;> rfl
def repO (x y : Option D) : Option (List D) := x.bind fun a => y.bind fun b => repLs a b
theorem ev_rep {f g : DE} {δ : DS} : dRep f g δ = repO (f δ) (g δ) := (rfl)
theorem eo_repN {d : D} {n : Nat} (h : n ≤ 1000000) : repO (some (.lst [d])) (some (.int (n : Int))) = some (List.replicate n d) := by
  have e : ∀ k : Nat, (List.replicate k [d]).flatten = List.replicate k d := fun k => by
    induction k with
    | zero => rfl
    | succ k ih => rw [List.replicate_succ, List.flatten_cons, ih, List.replicate_succ]; rfl
  show (if (0 ≤ (n : Int) ∧ (n : Int) ≤ 1000000) ∧ [d].length * (n : Int).toNat ≤ sizeLine then some (List.replicate (n : Int).toNat [d]).flatten else none) = _
  rw [if_pos ⟨⟨by omega, by omega⟩, small_line (by simp; exact h)⟩, Int.toNat_natCast, e]
def ixXO (o : Option XO) (y : Option D) : Option XO := match o with
  | some (.val d) => y.bind fun y => (ixD d y).bind fun z => if z.imm = true then some (.val z) else none
  | some (.exc c) => some (.exc c)
  | none => none
theorem ev_ixX {F : DS → Option XO} {g : DE} {δ : DS} : dIxX F g δ = ixXO (F δ) (g δ) := by
  unfold dIxX ixXO
  cases F δ with
  | none => rfl
  | some o => cases o <;> rfl
theorem eo_ixXe {c : Nat} {y : Option D} : ixXO (some (.exc c)) y = some (.exc c) := (rfl)
theorem ev_disp1 {f g : DE} {δ : DS} : dDisp1 f g δ = o2 mkD1 (f δ) (g δ) := ev_d2
theorem ev_rngN {f g h : DE} {δ : DS} : dRngN f g h δ = rngN (f δ) (g δ) (h δ) := (rfl)
theorem ea_mkD1 {a b : Int} : mkD1 (.int a) (.int b) = some (.dct [.inl a] [.int b]) := (rfl)
theorem ea_ixLL {ds : List D} {i : Int} : ixL (.lst ds) (.int i) = atI ds i := (rfl)
def forX2 (i j : Nat) (xs : Option (List D)) (b : SS → Option Out) (s : SS) : Option Out := xs.bind fun ds => forD2 i j b ds s
theorem ev_forO2 {i j : Nat} {f : DS → Option (List D)} {g : SS → Option Out} {s : SS} : forO2 i j f g s = forX2 i j (f (shV s)) g s := (rfl)
theorem eo_for2 {i j : Nat} {ds : List D} {b : SS → Option Out} {s : SS} : forX2 i j (some ds) b s = forD2 i j b ds s := (rfl)
theorem eo_val {d : D} : valO (some (.val d)) = some d := (rfl)
def xrO (x : Option XO) (s : SS) : Option Out := match x with
  | some (.val d) => some (.rt d)
  | some (.exc c) => some (.ex c s)
  | none => none
def xeO (x : Option XO) (s : SS) : Option Out := match x with
  | some (.val _) => some (.nx s)
  | some (.exc c) => some (.ex c s)
  | none => none
def xaO (i : Nat) (x : Option XO) (s : SS) : Option Out := match x with
  | some (.val d) => some (.nx (s.set i (some (.ow d))))
  | some (.exc c) => some (.ex c s)
  | none => none
theorem ev_retX {F : DS → Option XO} {s : SS} : retX F s = xrO (F (allV s)) s := by
  unfold retX xrO
  generalize F (allV s) = x
  rcases x with _ | _ | _ <;> rfl
theorem ev_exprX {F : DS → Option XO} {s : SS} : exprX F s = xeO (F (allV s)) s := by
  unfold exprX xeO
  generalize F (allV s) = x
  rcases x with _ | _ | _ <;> rfl
theorem ev_asgX {i : Nat} {F : DS → Option XO} {s : SS} : asgX i F s = xaO i (F (allV s)) s := by
  unfold asgX xaO
  generalize F (allV s) = x
  rcases x with _ | _ | _ <;> rfl
theorem eo_xrV {d : D} {s : SS} : xrO (some (.val d)) s = some (.rt d) := (rfl)
theorem eo_xrE {c : Nat} {s : SS} : xrO (some (.exc c)) s = some (.ex c s) := (rfl)
theorem eo_xeV {d : D} {s : SS} : xeO (some (.val d)) s = some (.nx s) := (rfl)
theorem eo_xeE {c : Nat} {s : SS} : xeO (some (.exc c)) s = some (.ex c s) := (rfl)
theorem eo_xaV {i : Nat} {d : D} {s : SS} : xaO i (some (.val d)) s = some (.nx (s.set i (some (.ow d)))) := (rfl)
theorem eo_xaE {i c : Nat} {s : SS} : xaO i (some (.exc c)) s = some (.ex c s) := (rfl)
theorem eo_bex {c : Nat} {s : SS} {b : SS → Option Out} : bindO (some (.ex c s)) b = some (.ex c s) := (rfl)
def tryX (x : Option Out) (gh : Nat → SS → Option Out) : Option Out := match x with
  | some (.ex c s) => gh c s
  | o => o
theorem ev_try {gb : SS → Option Out} {gh : Nat → SS → Option Out} {s : SS} : tryO gb gh s = tryX (gb s) gh := by
  unfold tryO tryX
  generalize gb s = x
  rcases x with _ | x
  · rfl
  · cases x <;> rfl
theorem eo_trN {s : SS} {gh : Nat → SS → Option Out} : tryX (some (.nx s)) gh = some (.nx s) := (rfl)
theorem eo_trR {d : D} {gh : Nat → SS → Option Out} : tryX (some (.rt d)) gh = some (.rt d) := (rfl)
theorem eo_trE {c : Nat} {s : SS} {gh : Nat → SS → Option Out} : tryX (some (.ex c s)) gh = gh c s := (rfl)
/-! except .. as e -/
def unX (i : Nat) (x : Option Out) : Option Out := match x with
  | some o => unO i o
  | none => none
theorem ev_asX {i : Nat} {x : Str} {g : SS → Option Out} {s : SS} : asXO i x g s = unX i (g (s.set i (some (.sh (.exc x))))) := by
  unfold asXO unX
  generalize g (s.set i (some (.sh (.exc x)))) = z
  cases z <;> rfl
theorem eo_unN {i : Nat} {s : SS} : unX i (some (.nx s)) = some (.nx (s.set i none)) := (rfl)
theorem eo_unR {i : Nat} {d : D} : unX i (some (.rt d)) = some (.rt d) := (rfl)
/-! return [x, y] -/
def r2O (x y : Option D) : Option Out := match x, y with
  | some d, some e => some (.rt (.lst [d, e]))
  | _, _ => none
theorem ev_ret2 {i j : Nat} {s : SS} : ret2 i j s = r2O (ownV s i) (ownV s j) := by
  unfold ret2 r2O
  generalize ownV s i = x
  generalize ownV s j = y
  rcases x with _ | x <;> rcases y with _ | y <;> rfl
theorem eo_r2 {d e : D} : r2O (some d) (some e) = some (.rt (.lst [d, e])) := (rfl)
theorem es_own0 {d : D} {r : SS} : ownV (some (.ow d) :: r) 0 = some d := (rfl)
theorem es_own1 {d : D} {r : SS} : ownV (some (.sh d) :: r) 0 = immO (some d) := (rfl)
theorem es_ownS {x : Option SD} {r : SS} {i : Nat} : ownV (x :: r) (i + 1) = ownV r i := by
  unfold ownV
  rw [List.getElem?_cons_succ]
end L2

/-! ### M11: what the newer layer files want -/
namespace L2
open PySem
def stepO (x y z : Option D) : Option (List D) := x.bind fun x => y.bind fun y => z.bind fun z => stepLs x y z
theorem ev_step {f g h : DE} {δ : DS} : dStep f g h δ = stepO (f δ) (g δ) (h δ) := (rfl)
theorem eo_stepR {ns : List Int} {a k : Int} (h : 0 ≤ a ∧ 0 < k) : ∃ ms : List Int, stepO (some (.scr ns)) (some (.int a)) (some (.int k)) = some (ms.map D.int) := by
  have e : ∀ l : List Nat, l.filterMap ((ns.map D.int)[·]?) = (l.filterMap (ns[·]?)).map D.int := fun l => by
    induction l with
    | nil => rfl
    | cons j l ih =>
      rw [List.filterMap_cons, List.filterMap_cons, ih, List.getElem?_map]
      cases ns[j]? <;> rfl
  refine ⟨(stepIx ns.length a k).filterMap (ns[·]?), ?_⟩
  show (if 0 ≤ a ∧ 0 < k then some ((stepIx ns.length a k).filterMap ((ns.map D.int)[·]?)) else none) = _
  rw [if_pos h, e]
/-! ### loops over ranges of anything -/
def iv1 : Option D → Option (Int × Nat)
  | some (.int j) => if -(2 ^ 62) ≤ j ∧ j < 2 ^ 62 then some (0, j.toNat) else none
  | _ => none
def iv2 : Option D → Option D → Option (Int × Nat)
  | some (.int i), some (.int j) => if -(2 ^ 62) ≤ i ∧ i < 2 ^ 62 ∧ -(2 ^ 62) ≤ j ∧ j < 2 ^ 62 then some (i, (j - i).toNat) else none
  | _, _ => none
theorem ev_iv1 {f : DE} {δ : DS} : dIv1 f δ = iv1 (f δ) := (rfl)
theorem ev_iv2 {f g : DE} {δ : DS} : dIv2 f g δ = iv2 (f δ) (g δ) := (rfl)
def forIX (i : Nat) (o : Option (Int × Nat)) (b : SS → Option Out) (s : SS) : Option Out := o.bind fun z => forD i b (rngL z.1 z.2) s
theorem ev_forI {i : Nat} {f : DS → Option (Int × Nat)} {b : SS → Option Out} {s : SS} : forI i f b s = forIX i (f (allV s)) b s := (rfl)
theorem eo_forI {i : Nat} {lo : Int} {n : Nat} {b : SS → Option Out} {s : SS} : forIX i (some (lo, n)) b s = forD i b (rngL lo n) s := (rfl)
def r3O (x y z : Option D) : Option Out := match x, y, z with
  | some d, some e, some f => some (.rt (.lst [d, e, f]))
  | _, _, _ => none
theorem ev_ret3 {i j l : Nat} {s : SS} : ret3 i j l s = r3O (ownV s i) (ownV s j) (ownV s l) := by
  unfold ret3 r3O
  generalize ownV s i = x
  generalize ownV s j = y
  generalize ownV s l = z
  rcases x with _ | x <;> rcases y with _ | y <;> rcases z with _ | z <;> rfl
theorem eo_r3 {d e f : D} : r3O (some d) (some e) (some f) = some (.rt (.lst [d, e, f])) := (rfl)
/-! ### what can be compared -/
def okN (n : Nat) (d : D) : Prop := (toP d).canLay0 = true ∧ (toP d).depth ≤ n
def oksN (n : Nat) (ds : List D) : Prop := PyData.canLayAll0 (toPs ds) = true ∧ PyData.depthAll (toPs ds) ≤ n
theorem oks_all {n : Nat} : ∀ {ds : List D}, (∀ d ∈ ds, okN n d) → oksN n ds
  | [], _ => ⟨rfl, Nat.zero_le n⟩
  | d :: ds, h => by
    have h1 := h d List.mem_cons_self
    have h2 := oks_all fun x hx => h x (List.mem_cons_of_mem _ hx)
    constructor
    · show (PyData.canLay0 (toP d) && PyData.canLayAll0 (toPs ds)) = true
      rw [h1.1, h2.1]
      rfl
    · show max (PyData.depth (toP d)) (PyData.depthAll (toPs ds)) ≤ n
      have := h1.2
      have := h2.2
      omega
theorem okN_lst {n : Nat} {ds : List D} (h : ∀ d ∈ ds, okN n d) : okN (n + 1) (.lst ds) := by
  have := oks_all h
  exact ⟨this.1, Nat.succ_le_succ this.2⟩
theorem okN_map {α : Type} {n : Nat} {f : α → D} {xs : List α} (h : ∀ x ∈ xs, okN n (f x)) : okN (n + 1) (.lst (xs.map f)) := okN_lst fun d hd => by
  obtain ⟨x, hx, rfl⟩ := List.mem_map.mp hd
  exact h x hx
theorem okN_int {i : Int} : okN 0 (.int i) := ⟨rfl, Nat.le_refl 0⟩
theorem okN_ints (o : List Int) : okN 1 (.lst (o.map .int)) := okN_map fun _ _ => okN_int
theorem okP_of {n : Nat} {d : D} (h : okN n d) (hn : n ≤ 60) : okP d = true := by
  unfold okP
  rw [Bool.and_eq_true, decide_eq_true_eq]
  exact ⟨h.1, Nat.le_trans h.2 hn⟩
theorem ne_same {n : Nat} {d : D} (h : okN n d) (hn : n ≤ 60) : neD d d = some (.bl false) := ne_self (okP_of h hn)
/-! ### lists of anything -/
theorem len_map {α : Type} {enc : α → D} {xs : List α} : lenF [.lst (xs.map enc)] = some (.int (xs.length : Int)) := by
  show some (D.int ((xs.map enc).length : Int)) = _
  rw [List.length_map]
theorem ea_at0 {x : D} {r : List D} : atI (x :: r) 0 = some x := atI_nat (j := 0) rfl
theorem ea_at1 {x y : D} {r : List D} : atI (x :: y :: r) 1 = some y := atI_nat (j := 1) rfl
theorem ea_at2 {x y z : D} {r : List D} : atI (x :: y :: z :: r) 2 = some z := atI_nat (j := 2) rfl
def inD' (ws : List Int) : D := .lst (ws.map .int)
/-! ### tuples of things; cuts -/
def cutTO (x : Option D) (lo hi : Option (Option Int)) : Option D := match x, lo, hi with
  | some (.tup ds), some l, some h => some (.tup (cutL ds l h))
  | _, _, _ => none
theorem ev_cutT {f : DE} {fl fh : DS → Option (Option Int)} {δ : DS} : dCutT f fl fh δ = cutTO (f δ) (fl δ) (fh δ) := by
  unfold dCutT cutTO
  rcases f δ with _ | (_ | _ | _ | _ | _ | _ | _ | _) <;> first | rfl | (cases fl δ <;> cases fh δ <;> rfl)
/-! ### lists put together, the script among them -/
def catSO (x y : Option D) : Option (List D) := x.bind fun x => y.bind fun y => catSs x y
theorem ev_catS {f g : DE} {δ : DS} : dCatS f g δ = catSO (f δ) (g δ) := (rfl)
/-! ### sorted(set(xs)) -/
theorem ev_sortS {f : DE} {δ : DS} : dSortS f δ = (f δ).bind sortSF := (rfl)
/-! ### max, min of lists -/
theorem max_in {ws : List Int} (h : ws ≠ []) : maxLF [inD' ws] = some (.int (mxI ws)) := by
  show ((ints' (ws.map D.int)).bind fun ns => if ns.isEmpty = true then none else some (D.int (mxI ns))) = _
  rw [ints_map, Option.bind_some, if_neg (by simpa using h)]
theorem min_in {ws : List Int} (h : ws ≠ []) : minLF [inD' ws] = some (.int (mnI ws)) := by
  show ((ints' (ws.map D.int)).bind fun ns => if ns.isEmpty = true then none else some (D.int (mnI ns))) = _
  rw [ints_map, Option.bind_some, if_neg (by simpa using h)]
/-! ### lists of ints -/
theorem ix_in {ws : List Int} {k : Nat} (h : k < ws.length) : ixD (inD' ws) (.int (k : Int)) = some (.int (ws.getD k 0)) := by
  have e : ws.getD k 0 = ws[k] := by simp [List.getD, List.getElem?_eq_getElem h]
  rw [e]
  exact ix_nat (by rw [List.getElem?_eq_getElem (by simpa using h), List.getElem_map])
theorem lst_in {ws : List Int} : D.lst (ws.map .int) = inD' ws := (rfl)
theorem flat_in (o : List Int) : flatO (some (o.map D.int)) = some (o.map D.int) := eo_flat (imms_int o)
/-! ### `if not` of a call that may raise -/
def xnO (x : Option XO) (g h : Option Out) (s : SS) : Option Out := x.bind fun o => match o with
  | .val (.bl k) => if k = true then h else g
  | .exc c => some (.ex c s)
  | _ => none
theorem ev_ifNX {F : DS → Option XO} {g h : SS → Option Out} {s : SS} : ifNX F g h s = xnO (F (allV s)) (g s) (h s) s := by
  unfold ifNX xnO
  rfl
theorem eo_xnT {g h : Option Out} {s : SS} : xnO (some (.val (.bl true))) g h s = h := (rfl)
theorem eo_xnF {g h : Option Out} {s : SS} : xnO (some (.val (.bl false))) g h s = g := (rfl)
theorem eo_xnE {g h : Option Out} {s : SS} {c : Nat} : xnO (some (.exc c)) g h s = some (.ex c s) := (rfl)
/-! ### `for` over a call that may raise -/
def fxO (x : Option XO) (i : Nat) (g : SS → Option Out) (s : SS) : Option Out := x.bind fun o => match o with
  | .val (.lst ds) => forD i g ds s
  | .exc c => some (.ex c s)
  | _ => none
theorem ev_forX {i : Nat} {F : DS → Option XO} {g : SS → Option Out} {s : SS} : forXO i F g s = fxO (F (allV s)) i g s := by
  unfold forXO fxO
  rfl
theorem eo_fxL {i : Nat} {ds : List D} {g : SS → Option Out} {s : SS} : fxO (some (.val (.lst ds))) i g s = forD i g ds s := (rfl)
theorem eo_fxE {i : Nat} {g : SS → Option Out} {s : SS} {c : Nat} : fxO (some (.exc c)) i g s = some (.ex c s) := (rfl)
end L2

/-! ### M12: what E63 and E64 want -/
namespace L2
open PySem
def cM2 (F : List D → Option D) (a b : Option D) (cs : Option (List D)) : Option D := a.bind fun a => b.bind fun b => cs.bind fun cs => F (a :: b :: cs)
theorem ev_callM2 {F : List D → Option D} {f0 f1 : DE} {fl : List DE} {δ : DS} : dCallM2 F f0 f1 fl δ = cM2 F (f0 δ) (f1 δ) (dArgs fl δ) := (rfl)
theorem eo_cM2 {F : List D → Option D} {a b : D} {cs : List D} : cM2 F (some a) (some b) (some cs) = F (a :: b :: cs) := (rfl)
def r1O (x : Option D) : Option Out := x.map fun d => .rt (.lst [d])
theorem ev_ret1 {i : Nat} {s : SS} : ret1 i s = r1O (ownV s i) := (rfl)
theorem eo_r1 {d : D} : r1O (some d) = some (.rt (.lst [d])) := (rfl)
def apX (x y : Option D) (i j : Nat) (s : SS) : Option Out := match x, y with
  | some d, some (.lst ds) => (appF ds [d]).map fun ds' => .nx (givS i j (.lst ds') s)
  | _, _ => none
theorem ev_appO {i j : Nat} {s : SS} : appO i j s = apX (owA j s) (owA i s) i j s := by
  unfold appO owA apX
  rcases s[j]? with _ | _ | ⟨x | x | ⟨r, x⟩⟩ <;> rcases s[i]? with _ | _ | ⟨y | y | ⟨r', y⟩⟩ <;> (first | rfl | (cases y <;> rfl))
end L2

/-! ### M13: what E66 wants -/
namespace L2
open PySem
def extDV (o x : Option D) : Option D := match x, o with
  | some (.lst es), some (.lst ds) => if imms es = true ∧ ds.length + es.length ≤ sizeLine then some (.lst (ds ++ es)) else none
  | _, _ => none
theorem ev_ext0D {i : Nat} {f : DE} {s : SS} : ext0D i f s = putO i (extDV (owA i s) (f (allV s))) s := by
  unfold ext0D owA
  cases f (allV s) with
  | none => rcases s[i]? with _ | _ | ⟨x | x | ⟨r, x⟩⟩ <;> rfl
  | some d =>
    cases d <;> rcases s[i]? with _ | _ | ⟨x | x | ⟨r, x⟩⟩ <;> (first | rfl | (cases x <;> (first | rfl | (show (if _ then _ else _) = putO i (if _ then _ else _) s; split <;> rfl))))
end L2

/-! ### M14: what E68 wants -/
namespace L2
open PySem
def st0NV (o k v : Option D) : Option D := match o, k, v with
  | some (.lst ds), some (.int k), some d => (ixN ds.length k).map fun j => .lst (ds.set j d)
  | _, _, _ => none
theorem ev_st0N {i : Nat} {fk fv : DE} {s : SS} : st0N i fk fv s = putO i (st0NV (owA i s) (fk (allV s)) (fv (allV s))) s := by
  unfold st0N owA
  rcases fv (allV s) with _ | d
  · rcases fk (allV s) with _ | k <;> rcases s[i]? with _ | _ | ⟨x | x | ⟨r, x⟩⟩ <;> (first | rfl | (cases x <;> first | rfl | (cases k <;> rfl)))
  · rcases fk (allV s) with _ | k
    · rcases s[i]? with _ | _ | ⟨x | x | ⟨r, x⟩⟩ <;> (first | rfl | (cases x <;> rfl))
    · rcases s[i]? with _ | _ | ⟨x | x | ⟨r, x⟩⟩ <;> cases k <;> (first | rfl | (cases x <;> first | rfl | skip))
      rename_i k ds
      show (ixN ds.length k).map _ = putO i ((ixN ds.length k).map _) s
      cases ixN ds.length k <;> rfl
end L2

/-! M15: zip, xs.append(ys.pop(0)) -/
namespace L2
open PySem
def zpO (x y : Option D) : Option (List D) := x.bind fun a => y.bind fun b => zipS a b
theorem ev_zip {f g : DE} {δ : DS} : dZip f g δ = zpO (f δ) (g δ) := (rfl)
end L2

/-! M16: frozen lists of things -/
namespace L2
open PySem
end L2

/-! M17: texts -/
namespace L2
open PySem
def sgn (x : Str) : Prop := ∀ c ∈ x.cps.toList, c < 128
theorem sgn_one {c : Nat} (h : c < 128) : sgn ⟨#[c]⟩ := fun d hd => by
  have : d = c := by simpa using hd
  omega
end L2

set_option maxHeartbeats 4000000
namespace Prg
open PySem PySem.Spec PyProof.Rows L2
def top (i : Nat) : Stmt := PySem.Challenge.pw_askorder_k68_whole_weights_by_pairings.main.body.getD i (.Pass ⟨0, 0, 0, 0⟩)
abbrev s_part : Stmt := top 1
abbrev N_part : List Str := ["table", "things"]
abbrev P_part : List Str := ["table", "things"]
abbrev s_picked : Stmt := top 2
abbrev N_picked : List Str := ["row", "things"]
abbrev P_picked : List Str := ["row", "things"]
abbrev s_column : Stmt := top 3
abbrev N_column : List Str := ["table", "one"]
abbrev P_column : List Str := ["table", "one"]
abbrev s_beaten_by : Stmt := top 4
abbrev N_beaten_by : List Str := ["table", "one"]
abbrev P_beaten_by : List Str := ["table", "one"]
abbrev s_beaters_of : Stmt := top 5
abbrev N_beaters_of : List Str := ["table", "one"]
abbrev P_beaters_of : List Str := ["table", "one"]
abbrev s_beats_all : Stmt := top 6
abbrev N_beats_all : List Str := ["table", "one", "things"]
abbrev P_beats_all : List Str := ["table", "one", "things"]
abbrev s_places_true : Stmt := top 7
abbrev N_places_true : List Str := ["marks"]
abbrev P_places_true : List Str := ["marks"]
abbrev s_covers : Stmt := top 9
abbrev N_covers : List Str := ["table", "one", "other"]
abbrev P_covers : List Str := ["table", "one", "other"]
abbrev s_uncovered : Stmt := top 10
abbrev N_uncovered : List Str := ["table"]
abbrev P_uncovered : List Str := ["table"]
abbrev s_is_covered : Stmt := top 11
abbrev N_is_covered : List Str := ["table", "one"]
abbrev P_is_covered : List Str := ["table", "one"]
abbrev s_pairing_sum : Stmt := top 13
abbrev N_pairing_sum : List Str := ["table", "total", "mate"]
abbrev P_pairing_sum : List Str := ["table"]
abbrev s_sign : Stmt := top 14
abbrev N_sign : List Str := ["table", "mate"]
abbrev P_sign : List Str := ["table", "mate"]
abbrev s_turned_sign : Stmt := top 15
abbrev N_turned_sign : List Str := ["times"]
abbrev P_turned_sign : List Str := ["times"]
abbrev s_without : Stmt := top 16
abbrev N_without : List Str := ["table", "things"]
abbrev P_without : List Str := ["table", "things"]
abbrev s_kernel : Stmt := top 17
abbrev N_kernel : List Str := ["table"]
abbrev P_kernel : List Str := ["table"]
abbrev s_score : Stmt := top 19
abbrev N_score : List Str := ["table", "weights", "thing"]
abbrev P_score : List Str := ["table", "weights", "thing"]
abbrev s_weight_of : Stmt := top 20
abbrev N_weight_of : List Str := ["weights", "things"]
abbrev P_weight_of : List Str := ["weights", "things"]
abbrev s_is_even : Stmt := top 21
abbrev N_is_even : List Str := ["table", "weights"]
abbrev P_is_even : List Str := ["table", "weights"]
abbrev s_is_even_at : Stmt := top 22
abbrev N_is_even_at : List Str := ["table", "weights", "thing"]
abbrev P_is_even_at : List Str := ["table", "weights", "thing"]
abbrev s_weighing : Stmt := top 23
abbrev N_weighing : List Str := ["table", "things", "weights"]
abbrev P_weighing : List Str := ["table"]
abbrev s_odd_picks : Stmt := top 24
abbrev N_odd_picks : List Str := ["things", "picks", "thing"]
abbrev P_odd_picks : List Str := ["things"]
abbrev s_weights_on : Stmt := top 25
abbrev N_weights_on : List Str := ["table", "things", "numbers", "divisor", "weights", "thing", "number"]
abbrev P_weights_on : List Str := ["table", "things"]
abbrev s_common_divisor : Stmt := top 26
abbrev N_common_divisor : List Str := ["numbers", "divisor", "number"]
abbrev P_common_divisor : List Str := ["numbers"]
abbrev s_divisor_of_two : Stmt := top 27
abbrev N_divisor_of_two : List Str := ["one", "other", "rest"]
abbrev P_divisor_of_two : List Str := ["one", "other"]
abbrev s__law_whole : Stmt := top 29
abbrev N__law_whole : List Str := ["found"]
abbrev P__law_whole : List Str := ["found"]
abbrev s__law_cell_at : Stmt := top 30
abbrev N__law_cell_at : List Str := ["script", "k"]
abbrev P__law_cell_at : List Str := ["script", "k"]
abbrev s__law_table : Stmt := top 31
abbrev N__law_table : List Str := ["script", "many", "pairs", "base", "rows", "p", "one", "other", "beats"]
abbrev P__law_table : List Str := ["script", "many"]
abbrev s__law_alike : Stmt := top 32
abbrev N__law_alike : List Str := ["table", "weights", "heavy", "found", "k"]
abbrev P__law_alike : List Str := ["table", "weights"]
abbrev s_law : Stmt := top 33
abbrev N_law : List Str := ["script", "table", "things", "turned_about", "back", "weights", "last"]
abbrev P_law : List Str := ["script"]
theorem nd0 : (["row", "things", "other"] : List Str).Nodup := by decide +kernel
theorem nd1 : (["table", "things", "one"] : List Str).Nodup := by decide +kernel
theorem nd2 : (["table", "one", "row"] : List Str).Nodup := by decide +kernel
theorem nd3 : (["table", "one", "things", "other"] : List Str).Nodup := by decide +kernel
theorem nd4 : (["marks", "place", "mark"] : List Str).Nodup := by decide +kernel
theorem nd5 : (["table", "one", "other"] : List Str).Nodup := by decide +kernel
theorem nd6 : (["table", "one"] : List Str).Nodup := by decide +kernel
theorem nd7 : (["table", "things", "thing"] : List Str).Nodup := by decide +kernel
theorem nd8 : (["table", "thing"] : List Str).Nodup := by decide +kernel
theorem nd9 : (["weights", "things", "thing"] : List Str).Nodup := by decide +kernel
theorem nd10 : (["table", "weights", "thing"] : List Str).Nodup := by decide +kernel
theorem nd11 : (["things", "picks", "thing", "pick"] : List Str).Nodup := by decide +kernel
theorem nd12 : (["script", "many", "pairs", "base", "rows", "p", "one", "other", "beats", "k"] : List Str).Nodup := by decide +kernel
theorem nd13 : (["table", "weights", "heavy", "found", "k", "one"] : List Str).Nodup := by decide +kernel
theorem nd14 : (["table", "weights", "heavy", "found", "k", "one", "other"] : List Str).Nodup := by decide +kernel
theorem nd15 : (["table", "weights", "heavy", "found", "k", "thing"] : List Str).Nodup := by decide +kernel
theorem nd16 : (["script", "table", "things", "turned_about", "back", "weights", "last", "row"] : List Str).Nodup := by decide +kernel
theorem nd17 : (["script", "table", "things", "turned_about", "back", "weights", "last", "one"] : List Str).Nodup := by decide +kernel
theorem nd18 : (["script", "table", "things", "turned_about", "back", "weights", "last", "one", "other"] : List Str).Nodup := by decide +kernel
def g_picked : SS → Option Out := (retN (mkFlat (dComp (dSeq (dVar 1)) dYes (d2 ixD (dVar 0) (dVar 2)))))
def m_picked : List D → Option D := runD 2 0 g_picked
def g_part : SS → Option Out := (retN (mkL (dComp (dSeq (dVar 1)) dYes (dCall m_picked [(d2 ixD (dVar 0) (dVar 2)), (dVar 1)]))))
def m_part : List D → Option D := runD 2 0 g_part
def g_column : SS → Option Out := (retN (mkFlat (dComp (dSeq (dVar 0)) dYes (d2 ixD (dVar 2) (dVar 1)))))
def m_column : List D → Option D := runD 2 0 g_column
def g_beats_all : SS → Option Out := (retI (dCall allF [(mkL (dComp (dSeq (dVar 2)) dYes (d2 ixD (d2 ixD (dVar 0) (dVar 1)) (dVar 3))))]))
def m_beats_all : List D → Option D := runD 3 0 g_beats_all
def g_places_true : SS → Option Out := (retN (mkFlat (dComp2 (dEnum (dVar 0)) (dTruth (dVar 2)) (dVar 1))))
def m_places_true : List D → Option D := runD 1 0 g_places_true
def g_beaten_by : SS → Option Out := (retN (dCall m_places_true [(d2 ixD (dVar 0) (dVar 1))]))
def m_beaten_by : List D → Option D := runD 2 0 g_beaten_by
def g_beaters_of : SS → Option Out := (retN (dCall m_places_true [(dCall m_column [(dVar 0), (dVar 1)])]))
def m_beaters_of : List D → Option D := runD 2 0 g_beaters_of
def g_covers : SS → Option Out := (retI (dAnd (d2 ixD (d2 ixD (dVar 0) (dVar 1)) (dVar 2)) (dCall m_beats_all [(dVar 0), (dVar 1), (dCall m_beaten_by [(dVar 0), (dVar 2)])])))
def m_covers : List D → Option D := runD 3 0 g_covers
def g_is_covered : SS → Option Out := (retI (dCall anyF [(mkL (dComp (dRng1 (dCall lenF [(dVar 0)])) dYes (dCall m_covers [(dVar 0), (dVar 2), (dVar 1)])))]))
def m_is_covered : List D → Option D := runD 2 0 g_is_covered
def g_uncovered : SS → Option Out := (retN (mkFlat (dComp (dRng1 (dCall lenF [(dVar 0)])) (dNotT (dTruth (dCall m_is_covered [(dVar 0), (dVar 1)]))) (dVar 1))))
def m_uncovered : List D → Option D := runD 1 0 g_uncovered
def g_sign : SS → Option Out := (retI (dIf (dTruth (d2 ixD (d2 ixD (dVar 0) (dC (.int 0))) (dVar 1))) (dC (.int 1)) (d1 uNeg (dC (.int 1)))))
def m_sign : List D → Option D := runD 2 0 g_sign
def g_turned_sign : SS → Option Out := (retI (dIf (dTest (d2 eqD (d2 modI (dVar 0) (dC (.int 2))) (dC (.int 0)))) (dC (.int 1)) (d1 uNeg (dC (.int 1)))))
def m_turned_sign : List D → Option D := runD 1 0 g_turned_sign
def g_without : SS → Option Out := (retN (dCall m_part [(dVar 0), (mkL (dComp (dRng1 (dCall lenF [(dVar 0)])) (dTest (d2 ninD (dVar 2) (dVar 1))) (dVar 2)))]))
def m_without : List D → Option D := runD 2 0 g_without
def g_pairing_sum (mR : List D → Option D) : SS → Option Out := (seqO (ifO (dTest (d2 eqD (dCall lenF [(dVar 0)]) (dC (.int 0)))) (retI (dC (.int 1))) skipO)
  (seqO (asgI 1 (dC (.int 0)))
  (seqO (forO 2 (dRng2 (dC (.int 1)) (dCall lenF [(dVar 0)])) (asgI 1 (d2 addI (dVar 1) (d2 mulB (d2 mulB (dCall m_turned_sign [(d2 subI (dVar 2) (dC (.int 1)))]) (dCall m_sign [(dVar 0), (dVar 2)])) (dCall mR [(dCall m_without [(dVar 0), (mkL (dArgs [(dC (.int 0)), (dVar 2)]))])])))))
  (retI (dVar 1)))))
def m_pairing_sumR : Nat → List D → Option D
  | 0 => runD 1 2 fun _ => none
  | n + 1 => runD 1 2 (g_pairing_sum (m_pairing_sumR n))
def m_pairing_sum : List D → Option D := m_pairing_sumR 12
def g_kernel : SS → Option Out := (retN (mkFlat (dComp (dRng1 (dCall lenF [(dVar 0)])) dYes (d2 mulB (dCall m_turned_sign [(dVar 1)]) (dCall m_pairing_sum [(dCall m_without [(dVar 0), (mkL (dArgs [(dVar 1)]))])])))))
def m_kernel : List D → Option D := runD 1 0 g_kernel
def g_weight_of : SS → Option Out := (retI (dCall sumF [(mkL (dComp (dSeq (dVar 1)) dYes (d2 ixD (dVar 0) (dVar 2))))]))
def m_weight_of : List D → Option D := runD 2 0 g_weight_of
def g_score : SS → Option Out := (retI (d2 subI (dCall m_weight_of [(dVar 1), (dCall m_beaten_by [(dVar 0), (dVar 2)])]) (dCall m_weight_of [(dVar 1), (dCall m_beaters_of [(dVar 0), (dVar 2)])])))
def m_score : List D → Option D := runD 3 0 g_score
def g_is_even_at : SS → Option Out := (seqO (ifO (dTest (d2 gtI (d2 ixD (dVar 1) (dVar 2)) (dC (.int 0)))) (retI (d2 eqD (dCall m_score [(dVar 0), (dVar 1), (dVar 2)]) (dC (.int 0)))) skipO)
  (retI (d2 ltI (dCall m_score [(dVar 0), (dVar 1), (dVar 2)]) (dC (.int 0)))))
def m_is_even_at : List D → Option D := runD 3 0 g_is_even_at
def g_is_even : SS → Option Out := (seqO (ifO (dOrT (dTest (d2 ltI (dCall minLF [(dVar 1)]) (dC (.int 0)))) (dTest (d2 eqD (dCall maxLF [(dVar 1)]) (dC (.int 0))))) (retI (dC (.bl false))) skipO)
  (retI (dCall allF [(mkL (dComp (dRng1 (dCall lenF [(dVar 0)])) dYes (dCall m_is_even_at [(dVar 0), (dVar 1), (dVar 2)])))])))
def m_is_even : List D → Option D := runD 2 0 g_is_even
def g_odd_picks : SS → Option Out := (seqO (asgS 1 (mkL (dArgs [(mkFlat (dArgs []))])))
  (seqO (forO 2 (dSeq (dVar 0)) (asgS 1 (mkL (dCat (dVar 1) (mkL (dComp (dSeq (dVar 1)) dYes (mkFlat (dCat (dVar 3) (mkL (dArgs [(dVar 2)]))))))))))
  (retS (mkL (dComp (dSeq (dVar 1)) (dTest (d2 eqD (d2 modI (dCall lenF [(dVar 3)]) (dC (.int 2))) (dC (.int 1)))) (dVar 3))))))
def m_odd_picks : List D → Option D := runD 1 2 g_odd_picks
def g_divisor_of_two : SS → Option Out := (seqO (whileD (dTest (d2 gtI (dVar 1) (dC (.int 0)))) (seqO (asgI 2 (d2 modI (dVar 0) (dVar 1)))
  (seqO (asgI 0 (dVar 1))
  (asgI 1 (dVar 2)))) 100)
  (retI (dVar 0)))
def m_divisor_of_two : List D → Option D := runD 2 1 g_divisor_of_two
def g_common_divisor : SS → Option Out := (seqO (asgI 1 (dC (.int 0)))
  (seqO (forO 2 (dSeq (dVar 0)) (asgI 1 (dCall m_divisor_of_two [(dVar 1), (dCall absF [(dVar 2)])])))
  (retI (dVar 1))))
def m_common_divisor : List D → Option D := runD 1 2 g_common_divisor
def g_weights_on : SS → Option Out := (seqO (asgS 2 (dCall m_kernel [(dCall m_part [(dVar 0), (dVar 1)])]))
  (seqO (asgI 3 (dCall m_common_divisor [(dVar 2)]))
  (seqO (ifO (dTest (d2 ltI (d2 ixD (dVar 2) (dC (.int 0))) (dC (.int 0)))) (asgI 3 (d1 uNeg (dVar 3))) skipO)
  (seqO (asgN 4 (mkFlat (dRep (mkL (dArgs [(dC (.int 0))])) (dCall lenF [(dVar 0)]))))
  (seqO (forO2 5 6 (dZip (dVar 1) (dVar 2)) (st0 4 (dVar 5) (d2 divN (dVar 6) (dVar 3))))
  (retO 4))))))
def m_weights_on : List D → Option D := runD 2 5 g_weights_on
def g_weighing : SS → Option Out := (forO 1 (dSeq (dCall m_odd_picks [(dCall m_uncovered [(dVar 0)])])) (seqO (asgN 2 (dCall m_weights_on [(dVar 0), (dVar 1)]))
  (ifO (dTruth (dCall m_is_even [(dVar 0), (dVar 2)])) (retO 2) skipO)))
def m_weighing : List D → Option D := runD 1 2 g_weighing
def g__law_whole : SS → Option Out := (retI (dAnd (dIs "int" (dVar 0)) (d1 uNot (dIs "bool" (dVar 0)))))
def m__law_whole : List D → Option D := runD 1 0 g__law_whole
def g__law_cell_at : SS → Option Out := (seqO (ifO (dTest (d2 ltI (dVar 1) (dCall lenF [(dVar 0)]))) (retI (d2 ixD (dVar 0) (dVar 1))) skipO)
  (retI (dC (.int 0))))
def m__law_cell_at : List D → Option D := runD 2 0 g__law_cell_at
def g__law_table : SS → Option Out := (seqO (asgI 2 (dCall maxF [(dC (.int 1)), (d2 divI (d2 mulI (dVar 1) (d2 subI (dVar 1) (dC (.int 1)))) (dC (.int 2)))]))
  (seqO (asgI 3 (d2 modI (dCall m__law_cell_at [(dVar 0), (dC (.int 1))]) (d2 powI (dC (.int 10)) (dC (.int 12)))))
  (seqO (asgN 4 (mkL (dComp (dRng1 (dVar 1)) dYes (mkFlat (dRep (mkL (dArgs [(dC (.bl false))])) (dVar 1))))))
  (seqO (asgI 5 (dC (.int 0)))
  (seqO (forO 6 (dRng1 (dVar 1)) (forO 7 (dRng2 (d2 addI (dVar 6) (dC (.int 1))) (dVar 1)) (seqO (asgI 8 (d2 eqD (d2 modI (d2 addI (dCall sumF [(mkL (dStep (dVar 0) (d2 addI (dC (.int 2)) (dVar 5)) (dVar 2)))]) (d2 divI (dVar 3) (d2 addI (d2 mulI (dVar 5) (dVar 5)) (dC (.int 1))))) (dC (.int 2))) (dC (.int 0))))
  (seqO (st1 4 (dVar 6) (dVar 7) (dVar 8))
  (seqO (st1 4 (dVar 7) (dVar 6) (d1 uNot (dVar 8)))
  (asgI 5 (d2 addI (dVar 5) (dC (.int 1)))))))))
  (retO 4))))))
def m__law_table : List D → Option D := runD 2 7 g__law_table
def g__law_alike : SS → Option Out := (seqO (ifO (dOrT (dNotT (dTruth (dIs "list" (dVar 1)))) (dTest (d2 neD (dCall lenF [(dVar 1)]) (dCall lenF [(dVar 0)])))) (retI (dC (.bl false))) skipO)
  (seqO (asgS 2 (mkL (dComp (dRng1 (dCall lenF [(dVar 0)])) (dTest (d2 gtI (d2 ixD (dVar 1) (dVar 5)) (dC (.int 0)))) (dVar 5))))
  (seqO (ifO (dTest (d2 neD (d2 modI (dCall lenF [(dVar 2)]) (dC (.int 2))) (dC (.int 1)))) (retI (dC (.bl false))) skipO)
  (seqO (asgN 3 (dCall m_kernel [(mkL (dComp (dSeq (dVar 2)) dYes (mkFlat (dComp (dSeq (dVar 2)) dYes (d2 ixD (d2 ixD (dVar 0) (dVar 5)) (dVar 6))))))]))
  (seqO (ifO (dOrT (dNotT (dTruth (dIs "list" (dVar 3)))) (dTest (d2 neD (dCall lenF [(dVar 3)]) (dCall lenF [(dVar 2)])))) (retI (dC (.bl false))) skipO)
  (seqO (forO 4 (dRng1 (dCall lenF [(dVar 2)])) (seqO (ifO (dNotT (dTruth (dCall m__law_whole [(d2 ixD (dVar 3) (dVar 4))]))) (retI (dC (.bl false))) skipO)
  (ifO (dTest (d2 neD (d2 mulB (d2 ixD (dVar 3) (dVar 4)) (d2 ixD (dVar 1) (d2 ixD (dVar 2) (dC (.int 0))))) (d2 mulB (d2 ixD (dVar 3) (dC (.int 0))) (d2 ixD (dVar 1) (d2 ixD (dVar 2) (dVar 4)))))) (retI (dC (.bl false))) skipO)))
  (retI (d2 neD (d2 ixD (dVar 3) (dC (.int 0))) (dC (.int 0))))))))))
def m__law_alike : List D → Option D := runD 2 3 g__law_alike
def g_law : SS → Option Out := (seqO (asgN 1 (dCall m__law_table [(dVar 0), (d2 addI (dC (.int 1)) (d2 modI (dCall m__law_cell_at [(dVar 0), (dC (.int 0))]) (dC (.int 7))))]))
  (seqO (asgN 2 (mkFlat (dSmall (dRng1 (dCall lenF [(dVar 1)])))))
  (seqO (asgN 3 (mkL (dComp (dSeq (dVar 2)) dYes (mkFlat (dComp (dSeq (dVar 2)) dYes (d2 ixD (d2 ixD (dVar 1) (dVar 8)) (dVar 7)))))))
  (seqO (asgN 4 (mkL (dComp (dSeq (mkL (dRevL (dVar 2) (d1 uNeg (dC (.int 1)))))) dYes (mkFlat (dComp (dSeq (mkL (dRevL (dVar 2) (d1 uNeg (dC (.int 1)))))) dYes (d2 ixD (d2 ixD (dVar 1) (dVar 7)) (dVar 8)))))))
  (seqO (asgN 5 (dCall m_weighing [(mkL (dComp (dSeq (dVar 1)) dYes (mkFlat (dCallL listF [(dVar 7)]))))]))
  (seqO (ifO (dOrT (dNotT (dTruth (dCall m__law_alike [(dVar 1), (dVar 5)]))) (dNotT (dTruth (dCall m__law_alike [(dVar 3), (dCall m_weighing [(dVar 3)])])))) (retI (dC (.bl false))) skipO)
  (seqO (asgN 6 (dCall m_weighing [(dVar 4)]))
  (retI (dAnd (dCall m__law_alike [(dVar 4), (dVar 6)]) (d2 eqD (dVar 6) (mkL (dRevL (dVar 5) (d1 uNeg (dC (.int 1)))))))))))))))
def m_law : List D → Option D := runD 1 6 g_law
structure Txt (mg : Str → Option Value) : Prop where
  b_all : mg "all" = none
  b_enumerate : mg "enumerate" = none
  b_range : mg "range" = none
  b_len : mg "len" = none
  b_any : mg "any" = none
  b_sum : mg "sum" = none
  b_min : mg "min" = none
  b_max : mg "max" = none
  b_abs : mg "abs" = none
  b_zip : mg "zip" = none
  b_int : mg "int" = none
  b_isinstance : mg "isinstance" = none
  b_bool : mg "bool" = none
  b_list : mg "list" = none
section
variable {P : Program} {w : World} {K : PySem.W.Frag} {mg : Str → Option Value} {base : Heap} {cl : Nat → Value}
theorem sc_picked : FnScope N_picked P_picked (defScope s_picked) := ⟨rfl, rfl, rfl, by decide +kernel, rfl, by decide +kernel, by decide +kernel⟩
theorem ok_picked {f : Addr} {fd : FuncData} (F : Fun K "picked" "picked" s_picked f fd) (hm : mg "picked" = some (.ref f)) (hb : Binds K fd P_picked []) (T : Txt mg) : DefOk P w K mg base 1 "picked" (spN K m_picked) :=
  defN (k := 0) (g := g_picked) F hm hb sc_picked rfl rfl fun cdv A outer s H E hr =>
    (ss_one (s_retN (pn_F (pf_comp (N' := ["row", "things", "other"])  rfl ⟨rfl, rfl, rfl, rfl, rfl⟩ (n := 2) rfl (pi_seqD (pd_v 1 (pv 1))) (fun _ _ _ _ _ => pg_name (i := 2) nd0 rfl (Or.inl rfl)) (fun _ _ _ _ _ => pifs_nilD) (fun _ _ _ _ _ => (pd_ix (pd_v 0 (pv 0)) (pd_v 2 (pv 2))))))))
theorem sc_part : FnScope N_part P_part (defScope s_part) := ⟨rfl, rfl, rfl, by decide +kernel, rfl, by decide +kernel, by decide +kernel⟩
theorem ok_part {f : Addr} {fd : FuncData} (F : Fun K "part" "part" s_part f fd) (hm : mg "part" = some (.ref f)) (hb : Binds K fd P_part []) (T : Txt mg) (G_picked : DefOk P w K mg base 1 "picked" (spN K m_picked)) : DefOk P w K mg base 2 "part" (spN K m_part) :=
  defN (k := 1) (g := g_part) F hm hb sc_part rfl rfl fun cdv A outer s H E hr =>
    (ss_one (s_retN (pn_comp (N' := ["table", "things", "one"])  rfl ⟨rfl, rfl, rfl, rfl, rfl⟩ (n := 2) rfl (pi_seqD (pd_v 1 (pv 1))) (fun _ _ _ _ _ => pg_name (i := 2) nd1 rfl (Or.inl rfl)) (fun _ _ _ _ _ => pifs_nilD) (fun _ _ _ _ _ => (pn_callN G_picked (hr.mono (by decide)) rfl (pad_cons (pd_ix (pd_v 0 (pv 0)) (pd_v 2 (pv 2))) (pad_cons (pd_v 1 (pv 1)) pad_nil)))))))
theorem sc_column : FnScope N_column P_column (defScope s_column) := ⟨rfl, rfl, rfl, by decide +kernel, rfl, by decide +kernel, by decide +kernel⟩
theorem ok_column {f : Addr} {fd : FuncData} (F : Fun K "column" "column" s_column f fd) (hm : mg "column" = some (.ref f)) (hb : Binds K fd P_column []) (T : Txt mg) : DefOk P w K mg base 1 "column" (spN K m_column) :=
  defN (k := 0) (g := g_column) F hm hb sc_column rfl rfl fun cdv A outer s H E hr =>
    (ss_one (s_retN (pn_F (pf_comp (N' := ["table", "one", "row"])  rfl ⟨rfl, rfl, rfl, rfl, rfl⟩ (n := 2) rfl (pi_seqD (pd_v 0 (pv 0))) (fun _ _ _ _ _ => pg_name (i := 2) nd2 rfl (Or.inl rfl)) (fun _ _ _ _ _ => pifs_nilD) (fun _ _ _ _ _ => (pd_ix (pd_v 2 (pv 2)) (pd_v 1 (pv 1))))))))
theorem sc_beats_all : FnScope N_beats_all P_beats_all (defScope s_beats_all) := ⟨rfl, rfl, rfl, by decide +kernel, rfl, by decide +kernel, by decide +kernel⟩
theorem ok_beats_all {f : Addr} {fd : FuncData} (F : Fun K "beats_all" "beats_all" s_beats_all f fd) (hm : mg "beats_all" = some (.ref f)) (hb : Binds K fd P_beats_all []) (T : Txt mg) : DefOk P w K mg base 1 "beats_all" (spN K m_beats_all) :=
  defN (k := 0) (g := g_beats_all) F hm hb sc_beats_all rfl rfl fun cdv A outer s H E hr =>
    (ss_one (s_retI (pd_all rfl rfl T.b_all (pd_F (pf_comp (N' := ["table", "one", "things", "other"])  rfl ⟨rfl, rfl, rfl, rfl, rfl⟩ (n := 3) rfl (pi_seqD (pd_v 2 (pv 2))) (fun _ _ _ _ _ => pg_name (i := 3) nd3 rfl (Or.inl rfl)) (fun _ _ _ _ _ => pifs_nilD) (fun _ _ _ _ _ => (pd_ix (pd_ix (pd_v 0 (pv 0)) (pd_v 1 (pv 1))) (pd_v 3 (pv 3)))))))))
theorem sc_places_true : FnScope N_places_true P_places_true (defScope s_places_true) := ⟨rfl, rfl, rfl, by decide +kernel, rfl, by decide +kernel, by decide +kernel⟩
theorem ok_places_true {f : Addr} {fd : FuncData} (F : Fun K "places_true" "places_true" s_places_true f fd) (hm : mg "places_true" = some (.ref f)) (hb : Binds K fd P_places_true []) (T : Txt mg) : DefOk P w K mg base 1 "places_true" (spN K m_places_true) :=
  defN (k := 0) (g := g_places_true) F hm hb sc_places_true rfl rfl fun cdv A outer s H E hr =>
    (ss_one (s_retN (pn_F (pf_comp2 (N' := ["marks", "place", "mark"])  rfl ⟨rfl, rfl, rfl, rfl, rfl⟩ (n := 1) rfl (pi_enumD rfl T.b_enumerate (pd_v 0 (pv 0))) (fun _ _ _ _ _ => pg_two rfl (pg_name (i := 1) nd4 rfl (Or.inl rfl)) (pg_name (i := 2) nd4 rfl (Or.inl rfl))) (fun _ _ _ _ _ => pifs_oneD (pt_truthD (pd_v 2 (pv 2)))) (fun _ _ _ _ _ => (pd_v 1 (pv 1)))))))
theorem sc_beaten_by : FnScope N_beaten_by P_beaten_by (defScope s_beaten_by) := ⟨rfl, rfl, rfl, by decide +kernel, rfl, by decide +kernel, by decide +kernel⟩
theorem ok_beaten_by {f : Addr} {fd : FuncData} (F : Fun K "beaten_by" "beaten_by" s_beaten_by f fd) (hm : mg "beaten_by" = some (.ref f)) (hb : Binds K fd P_beaten_by []) (T : Txt mg) (G_places_true : DefOk P w K mg base 1 "places_true" (spN K m_places_true)) : DefOk P w K mg base 2 "beaten_by" (spN K m_beaten_by) :=
  defN (k := 1) (g := g_beaten_by) F hm hb sc_beaten_by rfl rfl fun cdv A outer s H E hr =>
    (ss_one (s_retN (pn_callN G_places_true (hr.mono (by decide)) rfl (pad_cons (pd_ix (pd_v 0 (pv 0)) (pd_v 1 (pv 1))) pad_nil))))
theorem sc_beaters_of : FnScope N_beaters_of P_beaters_of (defScope s_beaters_of) := ⟨rfl, rfl, rfl, by decide +kernel, rfl, by decide +kernel, by decide +kernel⟩
theorem ok_beaters_of {f : Addr} {fd : FuncData} (F : Fun K "beaters_of" "beaters_of" s_beaters_of f fd) (hm : mg "beaters_of" = some (.ref f)) (hb : Binds K fd P_beaters_of []) (T : Txt mg) (G_column : DefOk P w K mg base 1 "column" (spN K m_column)) (G_places_true : DefOk P w K mg base 1 "places_true" (spN K m_places_true)) : DefOk P w K mg base 2 "beaters_of" (spN K m_beaters_of) :=
  defN (k := 1) (g := g_beaters_of) F hm hb sc_beaters_of rfl rfl fun cdv A outer s H E hr =>
    (ss_one (s_retN (pn_callN G_places_true (hr.mono (by decide)) rfl (pad_cons (pd_N (pn_callN G_column (hr.mono (by decide)) rfl (pad_cons (pd_v 0 (pv 0)) (pad_cons (pd_v 1 (pv 1)) pad_nil)))) pad_nil))))
theorem sc_covers : FnScope N_covers P_covers (defScope s_covers) := ⟨rfl, rfl, rfl, by decide +kernel, rfl, by decide +kernel, by decide +kernel⟩
theorem ok_covers {f : Addr} {fd : FuncData} (F : Fun K "covers" "covers" s_covers f fd) (hm : mg "covers" = some (.ref f)) (hb : Binds K fd P_covers []) (T : Txt mg) (G_beats_all : DefOk P w K mg base 1 "beats_all" (spN K m_beats_all)) (G_beaten_by : DefOk P w K mg base 2 "beaten_by" (spN K m_beaten_by)) : DefOk P w K mg base 3 "covers" (spN K m_covers) :=
  defN (k := 2) (g := g_covers) F hm hb sc_covers rfl rfl fun cdv A outer s H E hr =>
    (ss_one (s_retI (pd_and (pd_ix (pd_ix (pd_v 0 (pv 0)) (pd_v 1 (pv 1))) (pd_v 2 (pv 2))) (pd_one (pd_N (pn_callN G_beats_all (hr.mono (by decide)) rfl (pad_cons (pd_v 0 (pv 0)) (pad_cons (pd_v 1 (pv 1)) (pad_cons (pd_N (pn_callN G_beaten_by (hr.mono (by decide)) rfl (pad_cons (pd_v 0 (pv 0)) (pad_cons (pd_v 2 (pv 2)) pad_nil)))) pad_nil)))))))))
theorem sc_is_covered : FnScope N_is_covered P_is_covered (defScope s_is_covered) := ⟨rfl, rfl, rfl, by decide +kernel, rfl, by decide +kernel, by decide +kernel⟩
theorem ok_is_covered {f : Addr} {fd : FuncData} (F : Fun K "is_covered" "is_covered" s_is_covered f fd) (hm : mg "is_covered" = some (.ref f)) (hb : Binds K fd P_is_covered []) (T : Txt mg) (G_covers : DefOk P w K mg base 3 "covers" (spN K m_covers)) : DefOk P w K mg base 4 "is_covered" (spN K m_is_covered) :=
  defN (k := 3) (g := g_is_covered) F hm hb sc_is_covered rfl rfl fun cdv A outer s H E hr =>
    (ss_one (s_retI (pd_any rfl rfl T.b_any (pd_N (pn_comp (N' := ["table", "one", "other"])  rfl ⟨rfl, rfl, rfl, rfl, rfl⟩ (n := 2) rfl (pi_rng1 rfl T.b_range (pd_len rfl T.b_len (pd_v 0 (pv 0)))) (fun _ _ _ _ _ => pg_name (i := 2) nd5 rfl (Or.inl rfl)) (fun _ _ _ _ _ => pifs_nilD) (fun _ _ _ _ _ => (pn_callN G_covers (hr.mono (by decide)) rfl (pad_cons (pd_v 0 (pv 0)) (pad_cons (pd_v 2 (pv 2)) (pad_cons (pd_v 1 (pv 1)) pad_nil))))))))))
theorem sc_uncovered : FnScope N_uncovered P_uncovered (defScope s_uncovered) := ⟨rfl, rfl, rfl, by decide +kernel, rfl, by decide +kernel, by decide +kernel⟩
theorem ok_uncovered {f : Addr} {fd : FuncData} (F : Fun K "uncovered" "uncovered" s_uncovered f fd) (hm : mg "uncovered" = some (.ref f)) (hb : Binds K fd P_uncovered []) (T : Txt mg) (G_is_covered : DefOk P w K mg base 4 "is_covered" (spN K m_is_covered)) : DefOk P w K mg base 5 "uncovered" (spN K m_uncovered) :=
  defN (k := 4) (g := g_uncovered) F hm hb sc_uncovered rfl rfl fun cdv A outer s H E hr =>
    (ss_one (s_retN (pn_F (pf_comp (N' := ["table", "one"])  rfl ⟨rfl, rfl, rfl, rfl, rfl⟩ (n := 1) rfl (pi_rng1 rfl T.b_range (pd_len rfl T.b_len (pd_v 0 (pv 0)))) (fun _ _ _ _ _ => pg_name (i := 1) nd6 rfl (Or.inl rfl)) (fun _ _ _ _ _ => pifs_oneD (pt_notD (pt_truthD (pd_N (pn_callN G_is_covered (hr.mono (by decide)) rfl (pad_cons (pd_v 0 (pv 0)) (pad_cons (pd_v 1 (pv 1)) pad_nil))))))) (fun _ _ _ _ _ => (pd_v 1 (pv 1)))))))
theorem sc_sign : FnScope N_sign P_sign (defScope s_sign) := ⟨rfl, rfl, rfl, by decide +kernel, rfl, by decide +kernel, by decide +kernel⟩
theorem ok_sign {f : Addr} {fd : FuncData} (F : Fun K "sign" "sign" s_sign f fd) (hm : mg "sign" = some (.ref f)) (hb : Binds K fd P_sign []) (T : Txt mg) : DefOk P w K mg base 1 "sign" (spN K m_sign) :=
  defN (k := 0) (g := g_sign) F hm hb sc_sign rfl rfl fun cdv A outer s H E hr =>
    (ss_one (s_retI (pd_if (pt_truthD (pd_ix (pd_ix (pd_v 0 (pv 0)) pd_int) (pd_v 1 (pv 1)))) pd_int (pd_neg pd_int))))
theorem sc_turned_sign : FnScope N_turned_sign P_turned_sign (defScope s_turned_sign) := ⟨rfl, rfl, rfl, by decide +kernel, rfl, by decide +kernel, by decide +kernel⟩
theorem ok_turned_sign {f : Addr} {fd : FuncData} (F : Fun K "turned_sign" "turned_sign" s_turned_sign f fd) (hm : mg "turned_sign" = some (.ref f)) (hb : Binds K fd P_turned_sign []) (T : Txt mg) : DefOk P w K mg base 1 "turned_sign" (spN K m_turned_sign) :=
  defN (k := 0) (g := g_turned_sign) F hm hb sc_turned_sign rfl rfl fun cdv A outer s H E hr =>
    (ss_one (s_retI (pd_if (pt_eq hr.units (pd_mod (pd_v 0 (pv 0)) pd_int) pd_int) pd_int (pd_neg pd_int))))
theorem sc_without : FnScope N_without P_without (defScope s_without) := ⟨rfl, rfl, rfl, by decide +kernel, rfl, by decide +kernel, by decide +kernel⟩
theorem ok_without {f : Addr} {fd : FuncData} (F : Fun K "without" "without" s_without f fd) (hm : mg "without" = some (.ref f)) (hb : Binds K fd P_without []) (T : Txt mg) (G_part : DefOk P w K mg base 2 "part" (spN K m_part)) : DefOk P w K mg base 3 "without" (spN K m_without) :=
  defN (k := 2) (g := g_without) F hm hb sc_without rfl rfl fun cdv A outer s H E hr =>
    (ss_one (s_retN (pn_callN G_part (hr.mono (by decide)) rfl (pad_cons (pd_v 0 (pv 0)) (pad_cons (pd_F (pf_comp (N' := ["table", "things", "thing"])  rfl ⟨rfl, rfl, rfl, rfl, rfl⟩ (n := 2) rfl (pi_rng1 rfl T.b_range (pd_len rfl T.b_len (pd_v 0 (pv 0)))) (fun _ _ _ _ _ => pg_name (i := 2) nd7 rfl (Or.inl rfl)) (fun _ _ _ _ _ => pifs_oneD (pt_nin hr.units (pd_v 2 (pv 2)) (pd_v 1 (pv 1)))) (fun _ _ _ _ _ => (pd_v 2 (pv 2))))) pad_nil)))))
theorem sc_pairing_sum : FnScope N_pairing_sum P_pairing_sum (defScope s_pairing_sum) := ⟨rfl, rfl, rfl, by decide +kernel, rfl, by decide +kernel, by decide +kernel⟩
theorem ok_pairing_sumR {f : Addr} {fd : FuncData} (F : Fun K "pairing_sum" "pairing_sum" s_pairing_sum f fd) (hm : mg "pairing_sum" = some (.ref f)) (hb : Binds K fd P_pairing_sum []) (T : Txt mg) (G_sign : DefOk P w K mg base 1 "sign" (spN K m_sign)) (G_turned_sign : DefOk P w K mg base 1 "turned_sign" (spN K m_turned_sign)) (G_without : DefOk P w K mg base 3 "without" (spN K m_without)) : ∀ n : Nat, DefOk P w K mg base (4 + n) "pairing_sum" (spN K (m_pairing_sumR n))
  | 0 => defN (k := 3) (g := fun _ => none) F hm hb sc_pairing_sum rfl rfl fun cdv A outer s H E hr => ss_never
  | n + 1 => by
    have G_pairing_sum := ok_pairing_sumR F hm hb T G_sign G_turned_sign G_without n
    exact defN (k := 4 + n) (g := g_pairing_sum (m_pairing_sumR n)) F hm hb sc_pairing_sum rfl rfl fun cdv A outer s H E hr =>
    (ss_cons (s_if (pt_eq hr.units (pd_len rfl T.b_len (pd_v 0 (pv 0))) pd_int) (ss_one (s_retI pd_int)) ss_nil)
      (ss_cons (s_asgI (pas_e (i := 1) sc_pairing_sum.nd rfl (Or.inl rfl) pd_int))
      (ss_cons (s_for PassesOwn.never rfl (pi_rng2 rfl T.b_range pd_int (pd_len rfl T.b_len (pd_v 0 (pv 0)))) (pg_name (i := 2) sc_pairing_sum.nd rfl (Or.inl rfl)) (ss_one (s_asgI (pas_e (i := 1) sc_pairing_sum.nd rfl (Or.inl rfl) (pd_add (pd_v 1 (pv 1)) (pd_mulB (pd_mulB (pd_N (pn_callN G_turned_sign (hr.mono (by omega)) rfl (pad_cons (pd_sub (pd_v 2 (pv 2)) pd_int) pad_nil))) (pd_N (pn_callN G_sign (hr.mono (by omega)) rfl (pad_cons (pd_v 0 (pv 0)) (pad_cons (pd_v 2 (pv 2)) pad_nil))))) (pd_N (pn_callN G_pairing_sum (hr.mono (by omega)) rfl (pad_cons (pd_N (pn_callN G_without (hr.mono (by omega)) rfl (pad_cons (pd_v 0 (pv 0)) (pad_cons (pd_F (pf_list (pad_cons pd_int (pad_cons (pd_v 2 (pv 2)) pad_nil)) (Nat.le_of_ble_eq_true rfl))) pad_nil)))) pad_nil)))))))))
      (ss_one (s_retI (pd_v 1 (pv 1)))))))
theorem ok_pairing_sum {f : Addr} {fd : FuncData} (F : Fun K "pairing_sum" "pairing_sum" s_pairing_sum f fd) (hm : mg "pairing_sum" = some (.ref f)) (hb : Binds K fd P_pairing_sum []) (T : Txt mg) (G_sign : DefOk P w K mg base 1 "sign" (spN K m_sign)) (G_turned_sign : DefOk P w K mg base 1 "turned_sign" (spN K m_turned_sign)) (G_without : DefOk P w K mg base 3 "without" (spN K m_without)) : DefOk P w K mg base 16 "pairing_sum" (spN K m_pairing_sum) := ok_pairing_sumR F hm hb T G_sign G_turned_sign G_without 12
theorem sc_kernel : FnScope N_kernel P_kernel (defScope s_kernel) := ⟨rfl, rfl, rfl, by decide +kernel, rfl, by decide +kernel, by decide +kernel⟩
theorem ok_kernel {f : Addr} {fd : FuncData} (F : Fun K "kernel" "kernel" s_kernel f fd) (hm : mg "kernel" = some (.ref f)) (hb : Binds K fd P_kernel []) (T : Txt mg) (G_turned_sign : DefOk P w K mg base 1 "turned_sign" (spN K m_turned_sign)) (G_without : DefOk P w K mg base 3 "without" (spN K m_without)) (G_pairing_sum : DefOk P w K mg base 16 "pairing_sum" (spN K m_pairing_sum)) : DefOk P w K mg base 17 "kernel" (spN K m_kernel) :=
  defN (k := 16) (g := g_kernel) F hm hb sc_kernel rfl rfl fun cdv A outer s H E hr =>
    (ss_one (s_retN (pn_F (pf_comp (N' := ["table", "thing"])  rfl ⟨rfl, rfl, rfl, rfl, rfl⟩ (n := 1) rfl (pi_rng1 rfl T.b_range (pd_len rfl T.b_len (pd_v 0 (pv 0)))) (fun _ _ _ _ _ => pg_name (i := 1) nd8 rfl (Or.inl rfl)) (fun _ _ _ _ _ => pifs_nilD) (fun _ _ _ _ _ => (pd_mulB (pd_N (pn_callN G_turned_sign (hr.mono (by decide)) rfl (pad_cons (pd_v 1 (pv 1)) pad_nil))) (pd_N (pn_callN G_pairing_sum (hr.mono (by decide)) rfl (pad_cons (pd_N (pn_callN G_without (hr.mono (by decide)) rfl (pad_cons (pd_v 0 (pv 0)) (pad_cons (pd_F (pf_list (pad_cons (pd_v 1 (pv 1)) pad_nil))) pad_nil)))) pad_nil)))))))))
theorem sc_weight_of : FnScope N_weight_of P_weight_of (defScope s_weight_of) := ⟨rfl, rfl, rfl, by decide +kernel, rfl, by decide +kernel, by decide +kernel⟩
theorem ok_weight_of {f : Addr} {fd : FuncData} (F : Fun K "weight_of" "weight_of" s_weight_of f fd) (hm : mg "weight_of" = some (.ref f)) (hb : Binds K fd P_weight_of []) (T : Txt mg) : DefOk P w K mg base 1 "weight_of" (spN K m_weight_of) :=
  defN (k := 0) (g := g_weight_of) F hm hb sc_weight_of rfl rfl fun cdv A outer s H E hr =>
    (ss_one (s_retI (pd_sum rfl rfl T.b_sum (pd_F (pf_comp (N' := ["weights", "things", "thing"])  rfl ⟨rfl, rfl, rfl, rfl, rfl⟩ (n := 2) rfl (pi_seqD (pd_v 1 (pv 1))) (fun _ _ _ _ _ => pg_name (i := 2) nd9 rfl (Or.inl rfl)) (fun _ _ _ _ _ => pifs_nilD) (fun _ _ _ _ _ => (pd_ix (pd_v 0 (pv 0)) (pd_v 2 (pv 2)))))))))
theorem sc_score : FnScope N_score P_score (defScope s_score) := ⟨rfl, rfl, rfl, by decide +kernel, rfl, by decide +kernel, by decide +kernel⟩
theorem ok_score {f : Addr} {fd : FuncData} (F : Fun K "score" "score" s_score f fd) (hm : mg "score" = some (.ref f)) (hb : Binds K fd P_score []) (T : Txt mg) (G_beaten_by : DefOk P w K mg base 2 "beaten_by" (spN K m_beaten_by)) (G_beaters_of : DefOk P w K mg base 2 "beaters_of" (spN K m_beaters_of)) (G_weight_of : DefOk P w K mg base 1 "weight_of" (spN K m_weight_of)) : DefOk P w K mg base 3 "score" (spN K m_score) :=
  defN (k := 2) (g := g_score) F hm hb sc_score rfl rfl fun cdv A outer s H E hr =>
    (ss_one (s_retI (pd_sub (pd_N (pn_callN G_weight_of (hr.mono (by decide)) rfl (pad_cons (pd_v 1 (pv 1)) (pad_cons (pd_N (pn_callN G_beaten_by (hr.mono (by decide)) rfl (pad_cons (pd_v 0 (pv 0)) (pad_cons (pd_v 2 (pv 2)) pad_nil)))) pad_nil)))) (pd_N (pn_callN G_weight_of (hr.mono (by decide)) rfl (pad_cons (pd_v 1 (pv 1)) (pad_cons (pd_N (pn_callN G_beaters_of (hr.mono (by decide)) rfl (pad_cons (pd_v 0 (pv 0)) (pad_cons (pd_v 2 (pv 2)) pad_nil)))) pad_nil)))))))
theorem sc_is_even_at : FnScope N_is_even_at P_is_even_at (defScope s_is_even_at) := ⟨rfl, rfl, rfl, by decide +kernel, rfl, by decide +kernel, by decide +kernel⟩
theorem ok_is_even_at {f : Addr} {fd : FuncData} (F : Fun K "is_even_at" "is_even_at" s_is_even_at f fd) (hm : mg "is_even_at" = some (.ref f)) (hb : Binds K fd P_is_even_at []) (T : Txt mg) (G_score : DefOk P w K mg base 3 "score" (spN K m_score)) : DefOk P w K mg base 4 "is_even_at" (spN K m_is_even_at) :=
  defN (k := 3) (g := g_is_even_at) F hm hb sc_is_even_at rfl rfl fun cdv A outer s H E hr =>
    (ss_cons (s_if (pt_gt (pd_ix (pd_v 1 (pv 1)) (pd_v 2 (pv 2))) pd_int) (ss_one (s_retI (pd_eq hr.units (pd_N (pn_callN G_score (hr.mono (by decide)) rfl (pad_cons (pd_v 0 (pv 0)) (pad_cons (pd_v 1 (pv 1)) (pad_cons (pd_v 2 (pv 2)) pad_nil))))) pd_int))) ss_nil)
      (ss_one (s_retI (pd_lt (pd_N (pn_callN G_score (hr.mono (by decide)) rfl (pad_cons (pd_v 0 (pv 0)) (pad_cons (pd_v 1 (pv 1)) (pad_cons (pd_v 2 (pv 2)) pad_nil))))) pd_int))))
theorem sc_is_even : FnScope N_is_even P_is_even (defScope s_is_even) := ⟨rfl, rfl, rfl, by decide +kernel, rfl, by decide +kernel, by decide +kernel⟩
theorem ok_is_even {f : Addr} {fd : FuncData} (F : Fun K "is_even" "is_even" s_is_even f fd) (hm : mg "is_even" = some (.ref f)) (hb : Binds K fd P_is_even []) (T : Txt mg) (G_is_even_at : DefOk P w K mg base 4 "is_even_at" (spN K m_is_even_at)) : DefOk P w K mg base 5 "is_even" (spN K m_is_even) :=
  defN (k := 4) (g := g_is_even) F hm hb sc_is_even rfl rfl fun cdv A outer s H E hr =>
    (ss_cons (s_if (PW.pt (pw_orD (pt_lt (pd_minL rfl rfl T.b_min (pd_v 1 (pv 1))) pd_int) (pw_or1D (pt_eq hr.units (pd_maxL rfl rfl T.b_max (pd_v 1 (pv 1))) pd_int)))) (ss_one (s_retI pd_bl)) ss_nil)
      (ss_one (s_retI (pd_all rfl rfl T.b_all (pd_N (pn_comp (N' := ["table", "weights", "thing"])  rfl ⟨rfl, rfl, rfl, rfl, rfl⟩ (n := 2) rfl (pi_rng1 rfl T.b_range (pd_len rfl T.b_len (pd_v 0 (pv 0)))) (fun _ _ _ _ _ => pg_name (i := 2) nd10 rfl (Or.inl rfl)) (fun _ _ _ _ _ => pifs_nilD) (fun _ _ _ _ _ => (pn_callN G_is_even_at (hr.mono (by decide)) rfl (pad_cons (pd_v 0 (pv 0)) (pad_cons (pd_v 1 (pv 1)) (pad_cons (pd_v 2 (pv 2)) pad_nil)))))))))))
theorem sc_odd_picks : FnScope N_odd_picks P_odd_picks (defScope s_odd_picks) := ⟨rfl, rfl, rfl, by decide +kernel, rfl, by decide +kernel, by decide +kernel⟩
theorem ok_odd_picks {f : Addr} {fd : FuncData} (F : Fun K "odd_picks" "odd_picks" s_odd_picks f fd) (hm : mg "odd_picks" = some (.ref f)) (hb : Binds K fd P_odd_picks []) (T : Txt mg) : DefOk P w K mg base 1 "odd_picks" (spR K m_odd_picks) :=
  defR (k := 0) (g := g_odd_picks) F hm hb sc_odd_picks rfl rfl fun cdv A outer s H E B hr =>
    (ss_cons (s_asgS (pas_e (i := 1) sc_odd_picks.nd rfl (Or.inl rfl) (pd_N (pn_list (pan_cons (pn_F (pf_list pad_nil)) pan_nil)))))
      (ss_cons (s_for PassesOwn.never rfl (pi_seqD (pd_v 0 (pv 0))) (pg_name (i := 2) sc_odd_picks.nd rfl (Or.inr rfl)) (ss_one (s_asgS (pas_e (i := 1) sc_odd_picks.nd rfl (Or.inl rfl) (pd_F (pf_cat (pd_v 1 (pv 1)) (pd_N (pn_comp (N' := ["things", "picks", "thing", "pick"])  rfl ⟨rfl, rfl, rfl, rfl, rfl⟩ (n := 3) rfl (pi_seqD (pd_v 1 (pv 1))) (fun _ _ _ _ _ => pg_name (i := 3) nd11 rfl (Or.inl rfl)) (fun _ _ _ _ _ => pifs_nilD) (fun _ _ _ _ _ => (pn_F (pf_cat (pd_v 3 (pv 3)) (pd_F (pf_list (pad_cons (pd_v 2 (pv 2)) pad_nil))))))))))))))
      (ss_one (s_retS (pd_F (pf_comp (N' := ["things", "picks", "thing", "pick"])  rfl ⟨rfl, rfl, rfl, rfl, rfl⟩ (n := 3) rfl (pi_seqD (pd_v 1 (pv 1))) (fun _ _ _ _ _ => pg_name (i := 3) nd11 rfl (Or.inl rfl)) (fun _ _ _ _ _ => pifs_oneD (pt_eq hr.units (pd_mod (pd_len rfl T.b_len (pd_v 3 (pv 3))) pd_int) pd_int)) (fun _ _ _ _ _ => (pd_v 3 (pv 3)))))))))
theorem sc_divisor_of_two : FnScope N_divisor_of_two P_divisor_of_two (defScope s_divisor_of_two) := ⟨rfl, rfl, rfl, by decide +kernel, rfl, by decide +kernel, by decide +kernel⟩
theorem ok_divisor_of_two {f : Addr} {fd : FuncData} (F : Fun K "divisor_of_two" "divisor_of_two" s_divisor_of_two f fd) (hm : mg "divisor_of_two" = some (.ref f)) (hb : Binds K fd P_divisor_of_two []) (T : Txt mg) : DefOk P w K mg base 1 "divisor_of_two" (spN K m_divisor_of_two) :=
  defN (k := 0) (g := g_divisor_of_two) F hm hb sc_divisor_of_two rfl rfl fun cdv A outer s H E hr =>
    (ss_cons (s_while 100 PassesOwn.never (pt_gt (pd_v 1 (pv 1)) pd_int) (ss_cons (s_asgI (pas_e (i := 2) sc_divisor_of_two.nd rfl (Or.inl rfl) (pd_mod (pd_v 0 (pv 0)) (pd_v 1 (pv 1)))))
      (ss_cons (s_asgI (pas_e (i := 0) sc_divisor_of_two.nd rfl (Or.inl rfl) (pd_v 1 (pv 1))))
      (ss_one (s_asgI (pas_e (i := 1) sc_divisor_of_two.nd rfl (Or.inl rfl) (pd_v 2 (pv 2))))))))
      (ss_one (s_retI (pd_v 0 (pv 0)))))
theorem sc_common_divisor : FnScope N_common_divisor P_common_divisor (defScope s_common_divisor) := ⟨rfl, rfl, rfl, by decide +kernel, rfl, by decide +kernel, by decide +kernel⟩
theorem ok_common_divisor {f : Addr} {fd : FuncData} (F : Fun K "common_divisor" "common_divisor" s_common_divisor f fd) (hm : mg "common_divisor" = some (.ref f)) (hb : Binds K fd P_common_divisor []) (T : Txt mg) (G_divisor_of_two : DefOk P w K mg base 1 "divisor_of_two" (spN K m_divisor_of_two)) : DefOk P w K mg base 2 "common_divisor" (spN K m_common_divisor) :=
  defN (k := 1) (g := g_common_divisor) F hm hb sc_common_divisor rfl rfl fun cdv A outer s H E hr =>
    (ss_cons (s_asgI (pas_e (i := 1) sc_common_divisor.nd rfl (Or.inl rfl) pd_int))
      (ss_cons (s_for PassesOwn.never rfl (pi_seqD (pd_v 0 (pv 0))) (pg_name (i := 2) sc_common_divisor.nd rfl (Or.inl rfl)) (ss_one (s_asgI (pas_e (i := 1) sc_common_divisor.nd rfl (Or.inl rfl) (pd_N (pn_callN G_divisor_of_two (hr.mono (by decide)) rfl (pad_cons (pd_v 1 (pv 1)) (pad_cons (pd_abs rfl T.b_abs (pd_v 2 (pv 2))) pad_nil))))))))
      (ss_one (s_retI (pd_v 1 (pv 1))))))
theorem sc_weights_on : FnScope N_weights_on P_weights_on (defScope s_weights_on) := ⟨rfl, rfl, rfl, by decide +kernel, rfl, by decide +kernel, by decide +kernel⟩
theorem ok_weights_on {f : Addr} {fd : FuncData} (F : Fun K "weights_on" "weights_on" s_weights_on f fd) (hm : mg "weights_on" = some (.ref f)) (hb : Binds K fd P_weights_on []) (T : Txt mg) (G_part : DefOk P w K mg base 2 "part" (spN K m_part)) (G_kernel : DefOk P w K mg base 17 "kernel" (spN K m_kernel)) (G_common_divisor : DefOk P w K mg base 2 "common_divisor" (spN K m_common_divisor)) : DefOk P w K mg base 18 "weights_on" (spN K m_weights_on) :=
  defN (k := 17) (g := g_weights_on) F hm hb sc_weights_on rfl rfl fun cdv A outer s H E hr =>
    (ss_cons (s_asgS (pas_e (i := 2) sc_weights_on.nd rfl (Or.inl rfl) (pd_N (pn_callN G_kernel (hr.mono (by decide)) rfl (pad_cons (pd_N (pn_callN G_part (hr.mono (by decide)) rfl (pad_cons (pd_v 0 (pv 0)) (pad_cons (pd_v 1 (pv 1)) pad_nil)))) pad_nil)))))
      (ss_cons (s_asgI (pas_e (i := 3) sc_weights_on.nd rfl (Or.inl rfl) (pd_N (pn_callN G_common_divisor (hr.mono (by decide)) rfl (pad_cons (pd_v 2 (pv 2)) pad_nil)))))
      (ss_cons (s_if (pt_lt (pd_ix (pd_v 2 (pv 2)) pd_int) pd_int) (ss_one (s_asgI (pas_e (i := 3) sc_weights_on.nd rfl (Or.inl rfl) (pd_neg (pd_v 3 (pv 3)))))) ss_nil)
      (ss_cons (s_asgN (pas_e (i := 4) sc_weights_on.nd rfl (Or.inl rfl) (pn_F (pf_rep (pd_F (pf_list (pad_cons pd_int pad_nil))) (pd_len rfl T.b_len (pd_v 0 (pv 0)))))))
      (ss_cons (s_for2 PassesOwn.never rfl (pi_zipD rfl T.b_zip (pd_v 1 (pv 1)) (pd_v 2 (pv 2))) (pg_pair rfl (pg_name (i := 5) sc_weights_on.nd rfl (Or.inl rfl)) (pg_name (i := 6) sc_weights_on.nd rfl (Or.inl rfl))) (ss_one (s_st0 (pv 4) (pd_v 5 (pv 5)) (pd_divN (pd_v 6 (pv 6)) (pd_v 3 (pv 3))))))
      (ss_one (s_retO (pv 4))))))))
theorem sc_weighing : FnScope N_weighing P_weighing (defScope s_weighing) := ⟨rfl, rfl, rfl, by decide +kernel, rfl, by decide +kernel, by decide +kernel⟩
theorem ok_weighing {f : Addr} {fd : FuncData} (F : Fun K "weighing" "weighing" s_weighing f fd) (hm : mg "weighing" = some (.ref f)) (hb : Binds K fd P_weighing []) (T : Txt mg) (G_uncovered : DefOk P w K mg base 5 "uncovered" (spN K m_uncovered)) (G_is_even : DefOk P w K mg base 5 "is_even" (spN K m_is_even)) (G_odd_picks : DefOk P w K mg base 1 "odd_picks" (spR K m_odd_picks)) (G_weights_on : DefOk P w K mg base 18 "weights_on" (spN K m_weights_on)) : DefOk P w K mg base 19 "weighing" (spN K m_weighing) :=
  defN (k := 18) (g := g_weighing) F hm hb sc_weighing rfl rfl fun cdv A outer s H E hr =>
    (ss_one (s_for PassesOwn.never rfl (pi_seqD (pd_callR G_odd_picks (hr.mono (by decide)) rfl (pad_cons (pd_N (pn_callN G_uncovered (hr.mono (by decide)) rfl (pad_cons (pd_v 0 (pv 0)) pad_nil))) pad_nil))) (pg_name (i := 1) sc_weighing.nd rfl (Or.inl rfl)) (ss_cons (s_asgN (pas_e (i := 2) sc_weighing.nd rfl (Or.inl rfl) (pn_callN G_weights_on (hr.mono (by decide)) rfl (pad_cons (pd_v 0 (pv 0)) (pad_cons (pd_v 1 (pv 1)) pad_nil)))))
      (ss_one (s_if (pt_truthD (pd_N (pn_callN G_is_even (hr.mono (by decide)) rfl (pad_cons (pd_v 0 (pv 0)) (pad_cons (pd_v 2 (pv 2)) pad_nil))))) (ss_one (s_retO (pv 2))) ss_nil)))))
theorem sc__law_whole : FnScope N__law_whole P__law_whole (defScope s__law_whole) := ⟨rfl, rfl, rfl, by decide +kernel, rfl, by decide +kernel, by decide +kernel⟩
theorem ok__law_whole {f : Addr} {fd : FuncData} (F : Fun K "_law_whole" "_law_whole" s__law_whole f fd) (hm : mg "_law_whole" = some (.ref f)) (hb : Binds K fd P__law_whole []) (T : Txt mg) : DefOk P w K mg base 1 "_law_whole" (spN K m__law_whole) :=
  defN (k := 0) (g := g__law_whole) F hm hb sc__law_whole rfl rfl fun cdv A outer s H E hr =>
    (ss_one (s_retI (pd_and (pd_isInt rfl T.b_int rfl T.b_isinstance (pd_v 0 (pv 0))) (pd_one (pd_not (pd_isBool rfl T.b_bool rfl T.b_isinstance (pd_v 0 (pv 0))))))))
theorem sc__law_cell_at : FnScope N__law_cell_at P__law_cell_at (defScope s__law_cell_at) := ⟨rfl, rfl, rfl, by decide +kernel, rfl, by decide +kernel, by decide +kernel⟩
theorem ok__law_cell_at {f : Addr} {fd : FuncData} (F : Fun K "_law_cell_at" "_law_cell_at" s__law_cell_at f fd) (hm : mg "_law_cell_at" = some (.ref f)) (hb : Binds K fd P__law_cell_at []) (T : Txt mg) : DefOk P w K mg base 1 "_law_cell_at" (spN K m__law_cell_at) :=
  defN (k := 0) (g := g__law_cell_at) F hm hb sc__law_cell_at rfl rfl fun cdv A outer s H E hr =>
    (ss_cons (s_if (pt_lt (pd_v 1 (pv 1)) (pd_len rfl T.b_len (pd_v 0 (pv 0)))) (ss_one (s_retI (pd_ix (pd_v 0 (pv 0)) (pd_v 1 (pv 1))))) ss_nil)
      (ss_one (s_retI pd_int)))
theorem sc__law_table : FnScope N__law_table P__law_table (defScope s__law_table) := ⟨rfl, rfl, rfl, by decide +kernel, rfl, by decide +kernel, by decide +kernel⟩
theorem ok__law_table {f : Addr} {fd : FuncData} (F : Fun K "_law_table" "_law_table" s__law_table f fd) (hm : mg "_law_table" = some (.ref f)) (hb : Binds K fd P__law_table []) (T : Txt mg) (G__law_cell_at : DefOk P w K mg base 1 "_law_cell_at" (spN K m__law_cell_at)) : DefOk P w K mg base 2 "_law_table" (spN K m__law_table) :=
  defN (k := 1) (g := g__law_table) F hm hb sc__law_table rfl rfl fun cdv A outer s H E hr =>
    (ss_cons (s_asgI (pas_e (i := 2) sc__law_table.nd rfl (Or.inl rfl) (pd_max2 rfl rfl T.b_max pd_int (pd_div (pd_mul (pd_v 1 (pv 1)) (pd_sub (pd_v 1 (pv 1)) pd_int)) pd_int))))
      (ss_cons (s_asgI (pas_e (i := 3) sc__law_table.nd rfl (Or.inl rfl) (pd_mod (pd_N (pn_callN G__law_cell_at (hr.mono (by decide)) rfl (pad_cons (pd_v 0 (pv 0)) (pad_cons pd_int pad_nil)))) (pd_pow pd_int pd_int))))
      (ss_cons (s_asgN (pas_cN (i := 4) (N' := ["script", "many", "pairs", "base", "rows", "p", "one", "other", "beats", "k"]) sc__law_table.nd rfl rfl rfl ⟨rfl, rfl, rfl, rfl, rfl⟩ (n := 9) rfl (pi_rng1 rfl T.b_range (pd_v 1 (pv 1))) (fun _ _ _ _ _ => pg_name (i := 9) nd12 rfl (Or.inl rfl)) (fun _ _ _ _ _ => pifs_nilD) (fun _ _ _ _ _ => (pn_F (pf_rep (pd_F (pf_list (pad_cons pd_bl pad_nil))) (pd_v 1 (pv 1)))))))
      (ss_cons (s_asgI (pas_e (i := 5) sc__law_table.nd rfl (Or.inl rfl) pd_int))
      (ss_cons (s_for PassesOwn.never rfl (pi_rng1 rfl T.b_range (pd_v 1 (pv 1))) (pg_name (i := 6) sc__law_table.nd rfl (Or.inl rfl)) (ss_one (s_for PassesOwn.never rfl (pi_rng2 rfl T.b_range (pd_add (pd_v 6 (pv 6)) pd_int) (pd_v 1 (pv 1))) (pg_name (i := 7) sc__law_table.nd rfl (Or.inl rfl)) (ss_cons (s_asgI (pas_e (i := 8) sc__law_table.nd rfl (Or.inl rfl) (pd_eq hr.units (pd_mod (pd_add (pd_sum rfl rfl T.b_sum (pd_F (pf_step (pd_v 0 (pv 0)) (pd_add pd_int (pd_v 5 (pv 5))) (pd_v 2 (pv 2))))) (pd_div (pd_v 3 (pv 3)) (pd_add (pd_mul (pd_v 5 (pv 5)) (pd_v 5 (pv 5))) pd_int))) pd_int) pd_int)))
      (ss_cons (s_st1 (pv 4) (pd_v 6 (pv 6)) (pd_v 7 (pv 7)) (pd_v 8 (pv 8)))
      (ss_cons (s_st1 (pv 4) (pd_v 7 (pv 7)) (pd_v 6 (pv 6)) (pd_not (pd_v 8 (pv 8))))
      (ss_one (s_asgI (pas_e (i := 5) sc__law_table.nd rfl (Or.inl rfl) (pd_add (pd_v 5 (pv 5)) pd_int))))))))))
      (ss_one (s_retO (pv 4))))))))
theorem sc__law_alike : FnScope N__law_alike P__law_alike (defScope s__law_alike) := ⟨rfl, rfl, rfl, by decide +kernel, rfl, by decide +kernel, by decide +kernel⟩
theorem ok__law_alike {f : Addr} {fd : FuncData} (F : Fun K "_law_alike" "_law_alike" s__law_alike f fd) (hm : mg "_law_alike" = some (.ref f)) (hb : Binds K fd P__law_alike []) (T : Txt mg) (G_kernel : DefOk P w K mg base 17 "kernel" (spN K m_kernel)) (G__law_whole : DefOk P w K mg base 1 "_law_whole" (spN K m__law_whole)) : DefOk P w K mg base 18 "_law_alike" (spN K m__law_alike) :=
  defN (k := 17) (g := g__law_alike) F hm hb sc__law_alike rfl rfl fun cdv A outer s H E hr =>
    (ss_cons (s_if (PW.pt (pw_orD (pt_notD (pt_truthD (pd_isList rfl T.b_list rfl T.b_isinstance (pd_v 1 (pv 1))))) (pw_or1D (pt_ne hr.units (pd_len rfl T.b_len (pd_v 1 (pv 1))) (pd_len rfl T.b_len (pd_v 0 (pv 0))))))) (ss_one (s_retI pd_bl)) ss_nil)
      (ss_cons (s_asgS (pas_e (i := 2) sc__law_alike.nd rfl (Or.inr rfl) (pd_F (pf_comp (N' := ["table", "weights", "heavy", "found", "k", "thing"])  rfl ⟨rfl, rfl, rfl, rfl, rfl⟩ (n := 5) rfl (pi_rng1 rfl T.b_range (pd_len rfl T.b_len (pd_v 0 (pv 0)))) (fun _ _ _ _ _ => pg_name (i := 5) nd15 rfl (Or.inl rfl)) (fun _ _ _ _ _ => pifs_oneD (pt_gt (pd_ix (pd_v 1 (pv 1)) (pd_v 5 (pv 5))) pd_int)) (fun _ _ _ _ _ => (pd_v 5 (pv 5)))))))
      (ss_cons (s_if (pt_ne hr.units (pd_mod (pd_len rfl T.b_len (pd_v 2 (pv 2))) pd_int) pd_int) (ss_one (s_retI pd_bl)) ss_nil)
      (ss_cons (s_asgN (pas_e (i := 3) sc__law_alike.nd rfl (Or.inl rfl) (pn_callN G_kernel (hr.mono (by decide)) rfl (pad_cons (pd_N (pn_comp (N' := ["table", "weights", "heavy", "found", "k", "one"])  rfl ⟨rfl, rfl, rfl, rfl, rfl⟩ (n := 5) rfl (pi_seqD (pd_v 2 (pv 2))) (fun _ _ _ _ _ => pg_name (i := 5) nd13 rfl (Or.inr rfl)) (fun _ _ _ _ _ => pifs_nilD) (fun _ _ _ _ _ => (pn_F (pf_comp (N' := ["table", "weights", "heavy", "found", "k", "one", "other"])  rfl ⟨rfl, rfl, rfl, rfl, rfl⟩ (n := 6) rfl (pi_seqD (pd_v 2 (pv 2))) (fun _ _ _ _ _ => pg_name (i := 6) nd14 rfl (Or.inl rfl)) (fun _ _ _ _ _ => pifs_nilD) (fun _ _ _ _ _ => (pd_ix (pd_ix (pd_v 0 (pv 0)) (pd_v 5 (pv 5))) (pd_v 6 (pv 6))))))))) pad_nil))))
      (ss_cons (s_if (PW.pt (pw_orD (pt_notD (pt_truthD (pd_isList rfl T.b_list rfl T.b_isinstance (pd_v 3 (pv 3))))) (pw_or1D (pt_ne hr.units (pd_len rfl T.b_len (pd_v 3 (pv 3))) (pd_len rfl T.b_len (pd_v 2 (pv 2))))))) (ss_one (s_retI pd_bl)) ss_nil)
      (ss_cons (s_for PassesOwn.never rfl (pi_rng1 rfl T.b_range (pd_len rfl T.b_len (pd_v 2 (pv 2)))) (pg_name (i := 4) sc__law_alike.nd rfl (Or.inl rfl)) (ss_cons (s_if (pt_notD (pt_truthD (pd_N (pn_callN G__law_whole (hr.mono (by decide)) rfl (pad_cons (pd_ix (pd_v 3 (pv 3)) (pd_v 4 (pv 4))) pad_nil))))) (ss_one (s_retI pd_bl)) ss_nil)
      (ss_one (s_if (pt_ne hr.units (pd_mulB (pd_ix (pd_v 3 (pv 3)) (pd_v 4 (pv 4))) (pd_ix (pd_v 1 (pv 1)) (pd_ix (pd_v 2 (pv 2)) pd_int))) (pd_mulB (pd_ix (pd_v 3 (pv 3)) pd_int) (pd_ix (pd_v 1 (pv 1)) (pd_ix (pd_v 2 (pv 2)) (pd_v 4 (pv 4)))))) (ss_one (s_retI pd_bl)) ss_nil))))
      (ss_one (s_retI (pd_ne hr.units (pd_ix (pd_v 3 (pv 3)) pd_int) pd_int)))))))))
theorem sc_law : FnScope N_law P_law (defScope s_law) := ⟨rfl, rfl, rfl, by decide +kernel, rfl, by decide +kernel, by decide +kernel⟩
theorem ok_law {f : Addr} {fd : FuncData} (F : Fun K "law" "law" s_law f fd) (T : Txt mg) (G_weighing : DefOk P w K mg base 19 "weighing" (spN K m_weighing)) (G__law_cell_at : DefOk P w K mg base 1 "_law_cell_at" (spN K m__law_cell_at)) (G__law_table : DefOk P w K mg base 2 "_law_table" (spN K m__law_table)) (G__law_alike : DefOk P w K mg base 18 "_law_alike" (spN K m__law_alike)) : FnOk P w K mg base CX0 20 f fd P_law (spN K m_law) := 
  fnN (k := 19) (g := g_law) F sc_law rfl rfl fun cdv A outer s H E hr =>
    (ss_cons (s_asgN (pas_e (i := 1) sc_law.nd rfl (Or.inr rfl) (pn_callN G__law_table (hr.mono (by decide)) rfl (pad_cons (pd_v 0 (pv 0)) (pad_cons (pd_add pd_int (pd_mod (pd_N (pn_callN G__law_cell_at (hr.mono (by decide)) rfl (pad_cons (pd_v 0 (pv 0)) (pad_cons pd_int pad_nil)))) pd_int)) pad_nil)))))
      (ss_cons (s_asgN (pas_e (i := 2) sc_law.nd rfl (Or.inr rfl) (pn_F (pf_listR1 rfl rfl T.b_list rfl T.b_range (pd_len rfl T.b_len (pd_v 1 (pv 1)))))))
      (ss_cons (s_asgN (pas_cN (i := 3) (N' := ["script", "table", "things", "turned_about", "back", "weights", "last", "one"]) sc_law.nd rfl rfl rfl ⟨rfl, rfl, rfl, rfl, rfl⟩ (n := 7) rfl (pi_seqD (pd_v 2 (pv 2))) (fun _ _ _ _ _ => pg_name (i := 7) nd17 rfl (Or.inr rfl)) (fun _ _ _ _ _ => pifs_nilD) (fun _ _ _ _ _ => (pn_F (pf_comp (N' := ["script", "table", "things", "turned_about", "back", "weights", "last", "one", "other"])  rfl ⟨rfl, rfl, rfl, rfl, rfl⟩ (n := 8) rfl (pi_seqD (pd_v 2 (pv 2))) (fun _ _ _ _ _ => pg_name (i := 8) nd18 rfl (Or.inl rfl)) (fun _ _ _ _ _ => pifs_nilD) (fun _ _ _ _ _ => (pd_ix (pd_ix (pd_v 1 (pv 1)) (pd_v 8 (pv 8))) (pd_v 7 (pv 7)))))))))
      (ss_cons (s_asgN (pas_cN (i := 4) (N' := ["script", "table", "things", "turned_about", "back", "weights", "last", "one"]) sc_law.nd rfl rfl rfl ⟨rfl, rfl, rfl, rfl, rfl⟩ (n := 7) rfl (pi_seqD (pd_F (pf_revL (pd_v 2 (pv 2)) (pd_neg pd_int)))) (fun _ _ _ _ _ => pg_name (i := 7) nd17 rfl (Or.inr rfl)) (fun _ _ _ _ _ => pifs_nilD) (fun _ _ _ _ _ => (pn_F (pf_comp (N' := ["script", "table", "things", "turned_about", "back", "weights", "last", "one", "other"])  rfl ⟨rfl, rfl, rfl, rfl, rfl⟩ (n := 8) rfl (pi_seqD (pd_F (pf_revL (pd_v 2 (pv 2)) (pd_neg pd_int)))) (fun _ _ _ _ _ => pg_name (i := 8) nd18 rfl (Or.inl rfl)) (fun _ _ _ _ _ => pifs_nilD) (fun _ _ _ _ _ => (pd_ix (pd_ix (pd_v 1 (pv 1)) (pd_v 7 (pv 7))) (pd_v 8 (pv 8)))))))))
      (ss_cons (s_asgN (pas_e (i := 5) sc_law.nd rfl (Or.inl rfl) (pn_callN G_weighing (hr.mono (by decide)) rfl (pad_cons (pd_N (pn_comp (N' := ["script", "table", "things", "turned_about", "back", "weights", "last", "row"])  rfl ⟨rfl, rfl, rfl, rfl, rfl⟩ (n := 7) rfl (pi_seqD (pd_v 1 (pv 1))) (fun _ _ _ _ _ => pg_name (i := 7) nd16 rfl (Or.inl rfl)) (fun _ _ _ _ _ => pifs_nilD) (fun _ _ _ _ _ => (pn_F (pf_listOf rfl T.b_list (pd_v 7 (pv 7))))))) pad_nil))))
      (ss_cons (s_if (PW.pt (pw_orD (pt_notD (pt_truthD (pd_N (pn_callN G__law_alike (hr.mono (by decide)) rfl (pad_cons (pd_v 1 (pv 1)) (pad_cons (pd_v 5 (pv 5)) pad_nil)))))) (pw_or1D (pt_notD (pt_truthD (pd_N (pn_callN G__law_alike (hr.mono (by decide)) rfl (pad_cons (pd_v 3 (pv 3)) (pad_cons (pd_N (pn_callN G_weighing (hr.mono (by decide)) rfl (pad_cons (pd_v 3 (pv 3)) pad_nil))) pad_nil))))))))) (ss_one (s_retI pd_bl)) ss_nil)
      (ss_cons (s_asgN (pas_e (i := 6) sc_law.nd rfl (Or.inl rfl) (pn_callN G_weighing (hr.mono (by decide)) rfl (pad_cons (pd_v 4 (pv 4)) pad_nil))))
      (ss_one (s_retI (pd_and (pd_N (pn_callN G__law_alike (hr.mono (by decide)) rfl (pad_cons (pd_v 4 (pv 4)) (pad_cons (pd_v 6 (pv 6)) pad_nil)))) (pd_one (pd_eq hr.units (pd_v 6 (pv 6)) (pd_F (pf_revL (pd_v 5 (pv 5)) (pd_neg pd_int)))))))))))))))
end
theorem all_mk {l : PySem.W.OpenLaw} {w : World} {K : PySem.W.Frag} {h : Heap} {mg : Str → Option Value} {fa : Addr} (X : K.In h) (G : h.Ns mainGlobals mg) (hfa : mg "law" = some (.ref fa))
    {f_part f_picked f_column f_beaten_by f_beaters_of f_beats_all f_places_true f_covers f_uncovered f_is_covered f_pairing_sum f_sign f_turned_sign f_without f_kernel f_score f_weight_of f_is_even f_is_even_at f_weighing f_odd_picks f_weights_on f_common_divisor f_divisor_of_two f__law_whole f__law_cell_at f__law_table f__law_alike f_law : Addr} {od_part an_part : Option Addr} {sl_part : Array (Option Value)} {oc_part kV_part dc_part pm_part cd_part ct_part : Value} {od_picked an_picked : Option Addr} {sl_picked : Array (Option Value)} {oc_picked kV_picked dc_picked pm_picked cd_picked ct_picked : Value} {od_column an_column : Option Addr} {sl_column : Array (Option Value)} {oc_column kV_column dc_column pm_column cd_column ct_column : Value} {od_beaten_by an_beaten_by : Option Addr} {sl_beaten_by : Array (Option Value)} {oc_beaten_by kV_beaten_by dc_beaten_by pm_beaten_by cd_beaten_by ct_beaten_by : Value} {od_beaters_of an_beaters_of : Option Addr} {sl_beaters_of : Array (Option Value)} {oc_beaters_of kV_beaters_of dc_beaters_of pm_beaters_of cd_beaters_of ct_beaters_of : Value} {od_beats_all an_beats_all : Option Addr} {sl_beats_all : Array (Option Value)} {oc_beats_all kV_beats_all dc_beats_all pm_beats_all cd_beats_all ct_beats_all : Value} {od_places_true an_places_true : Option Addr} {sl_places_true : Array (Option Value)} {oc_places_true kV_places_true dc_places_true pm_places_true cd_places_true ct_places_true : Value} {od_covers an_covers : Option Addr} {sl_covers : Array (Option Value)} {oc_covers kV_covers dc_covers pm_covers cd_covers ct_covers : Value} {od_uncovered an_uncovered : Option Addr} {sl_uncovered : Array (Option Value)} {oc_uncovered kV_uncovered dc_uncovered pm_uncovered cd_uncovered ct_uncovered : Value} {od_is_covered an_is_covered : Option Addr} {sl_is_covered : Array (Option Value)} {oc_is_covered kV_is_covered dc_is_covered pm_is_covered cd_is_covered ct_is_covered : Value} {od_pairing_sum an_pairing_sum : Option Addr} {sl_pairing_sum : Array (Option Value)} {oc_pairing_sum kV_pairing_sum dc_pairing_sum pm_pairing_sum cd_pairing_sum ct_pairing_sum : Value} {od_sign an_sign : Option Addr} {sl_sign : Array (Option Value)} {oc_sign kV_sign dc_sign pm_sign cd_sign ct_sign : Value} {od_turned_sign an_turned_sign : Option Addr} {sl_turned_sign : Array (Option Value)} {oc_turned_sign kV_turned_sign dc_turned_sign pm_turned_sign cd_turned_sign ct_turned_sign : Value} {od_without an_without : Option Addr} {sl_without : Array (Option Value)} {oc_without kV_without dc_without pm_without cd_without ct_without : Value} {od_kernel an_kernel : Option Addr} {sl_kernel : Array (Option Value)} {oc_kernel kV_kernel dc_kernel pm_kernel cd_kernel ct_kernel : Value} {od_score an_score : Option Addr} {sl_score : Array (Option Value)} {oc_score kV_score dc_score pm_score cd_score ct_score : Value} {od_weight_of an_weight_of : Option Addr} {sl_weight_of : Array (Option Value)} {oc_weight_of kV_weight_of dc_weight_of pm_weight_of cd_weight_of ct_weight_of : Value} {od_is_even an_is_even : Option Addr} {sl_is_even : Array (Option Value)} {oc_is_even kV_is_even dc_is_even pm_is_even cd_is_even ct_is_even : Value} {od_is_even_at an_is_even_at : Option Addr} {sl_is_even_at : Array (Option Value)} {oc_is_even_at kV_is_even_at dc_is_even_at pm_is_even_at cd_is_even_at ct_is_even_at : Value} {od_weighing an_weighing : Option Addr} {sl_weighing : Array (Option Value)} {oc_weighing kV_weighing dc_weighing pm_weighing cd_weighing ct_weighing : Value} {od_odd_picks an_odd_picks : Option Addr} {sl_odd_picks : Array (Option Value)} {oc_odd_picks kV_odd_picks dc_odd_picks pm_odd_picks cd_odd_picks ct_odd_picks : Value} {od_weights_on an_weights_on : Option Addr} {sl_weights_on : Array (Option Value)} {oc_weights_on kV_weights_on dc_weights_on pm_weights_on cd_weights_on ct_weights_on : Value} {od_common_divisor an_common_divisor : Option Addr} {sl_common_divisor : Array (Option Value)} {oc_common_divisor kV_common_divisor dc_common_divisor pm_common_divisor cd_common_divisor ct_common_divisor : Value} {od_divisor_of_two an_divisor_of_two : Option Addr} {sl_divisor_of_two : Array (Option Value)} {oc_divisor_of_two kV_divisor_of_two dc_divisor_of_two pm_divisor_of_two cd_divisor_of_two ct_divisor_of_two : Value} {od__law_whole an__law_whole : Option Addr} {sl__law_whole : Array (Option Value)} {oc__law_whole kV__law_whole dc__law_whole pm__law_whole cd__law_whole ct__law_whole : Value} {od__law_cell_at an__law_cell_at : Option Addr} {sl__law_cell_at : Array (Option Value)} {oc__law_cell_at kV__law_cell_at dc__law_cell_at pm__law_cell_at cd__law_cell_at ct__law_cell_at : Value} {od__law_table an__law_table : Option Addr} {sl__law_table : Array (Option Value)} {oc__law_table kV__law_table dc__law_table pm__law_table cd__law_table ct__law_table : Value} {od__law_alike an__law_alike : Option Addr} {sl__law_alike : Array (Option Value)} {oc__law_alike kV__law_alike dc__law_alike pm__law_alike cd__law_alike ct__law_alike : Value} {od_law an_law : Option Addr} {sl_law : Array (Option Value)} {oc_law kV_law dc_law pm_law cd_law ct_law : Value}
    (a_part : PySem.W.nsIn K mainGlobals "part" = some (some (.ref f_part))) (l_part : K.lookup f_part = some ⟨oc_part, od_part, .func (PySem.W.fnOf "part" "part" (defArgs s_part) (defBody s_part) (defScope s_part) .none kV_part dc_part pm_part an_part cd_part ct_part), sl_part⟩) (c_part : PySem.W.codeIn K cd_part "part" = true) (k_part : PySem.W.keepIn K (.ref f_part) = true)
    (a_picked : PySem.W.nsIn K mainGlobals "picked" = some (some (.ref f_picked))) (l_picked : K.lookup f_picked = some ⟨oc_picked, od_picked, .func (PySem.W.fnOf "picked" "picked" (defArgs s_picked) (defBody s_picked) (defScope s_picked) .none kV_picked dc_picked pm_picked an_picked cd_picked ct_picked), sl_picked⟩) (c_picked : PySem.W.codeIn K cd_picked "picked" = true) (k_picked : PySem.W.keepIn K (.ref f_picked) = true)
    (a_column : PySem.W.nsIn K mainGlobals "column" = some (some (.ref f_column))) (l_column : K.lookup f_column = some ⟨oc_column, od_column, .func (PySem.W.fnOf "column" "column" (defArgs s_column) (defBody s_column) (defScope s_column) .none kV_column dc_column pm_column an_column cd_column ct_column), sl_column⟩) (c_column : PySem.W.codeIn K cd_column "column" = true) (k_column : PySem.W.keepIn K (.ref f_column) = true)
    (a_beaten_by : PySem.W.nsIn K mainGlobals "beaten_by" = some (some (.ref f_beaten_by))) (l_beaten_by : K.lookup f_beaten_by = some ⟨oc_beaten_by, od_beaten_by, .func (PySem.W.fnOf "beaten_by" "beaten_by" (defArgs s_beaten_by) (defBody s_beaten_by) (defScope s_beaten_by) .none kV_beaten_by dc_beaten_by pm_beaten_by an_beaten_by cd_beaten_by ct_beaten_by), sl_beaten_by⟩) (c_beaten_by : PySem.W.codeIn K cd_beaten_by "beaten_by" = true) (k_beaten_by : PySem.W.keepIn K (.ref f_beaten_by) = true)
    (a_beaters_of : PySem.W.nsIn K mainGlobals "beaters_of" = some (some (.ref f_beaters_of))) (l_beaters_of : K.lookup f_beaters_of = some ⟨oc_beaters_of, od_beaters_of, .func (PySem.W.fnOf "beaters_of" "beaters_of" (defArgs s_beaters_of) (defBody s_beaters_of) (defScope s_beaters_of) .none kV_beaters_of dc_beaters_of pm_beaters_of an_beaters_of cd_beaters_of ct_beaters_of), sl_beaters_of⟩) (c_beaters_of : PySem.W.codeIn K cd_beaters_of "beaters_of" = true) (k_beaters_of : PySem.W.keepIn K (.ref f_beaters_of) = true)
    (a_beats_all : PySem.W.nsIn K mainGlobals "beats_all" = some (some (.ref f_beats_all))) (l_beats_all : K.lookup f_beats_all = some ⟨oc_beats_all, od_beats_all, .func (PySem.W.fnOf "beats_all" "beats_all" (defArgs s_beats_all) (defBody s_beats_all) (defScope s_beats_all) .none kV_beats_all dc_beats_all pm_beats_all an_beats_all cd_beats_all ct_beats_all), sl_beats_all⟩) (c_beats_all : PySem.W.codeIn K cd_beats_all "beats_all" = true) (k_beats_all : PySem.W.keepIn K (.ref f_beats_all) = true)
    (a_places_true : PySem.W.nsIn K mainGlobals "places_true" = some (some (.ref f_places_true))) (l_places_true : K.lookup f_places_true = some ⟨oc_places_true, od_places_true, .func (PySem.W.fnOf "places_true" "places_true" (defArgs s_places_true) (defBody s_places_true) (defScope s_places_true) .none kV_places_true dc_places_true pm_places_true an_places_true cd_places_true ct_places_true), sl_places_true⟩) (c_places_true : PySem.W.codeIn K cd_places_true "places_true" = true) (k_places_true : PySem.W.keepIn K (.ref f_places_true) = true)
    (a_covers : PySem.W.nsIn K mainGlobals "covers" = some (some (.ref f_covers))) (l_covers : K.lookup f_covers = some ⟨oc_covers, od_covers, .func (PySem.W.fnOf "covers" "covers" (defArgs s_covers) (defBody s_covers) (defScope s_covers) .none kV_covers dc_covers pm_covers an_covers cd_covers ct_covers), sl_covers⟩) (c_covers : PySem.W.codeIn K cd_covers "covers" = true) (k_covers : PySem.W.keepIn K (.ref f_covers) = true)
    (a_uncovered : PySem.W.nsIn K mainGlobals "uncovered" = some (some (.ref f_uncovered))) (l_uncovered : K.lookup f_uncovered = some ⟨oc_uncovered, od_uncovered, .func (PySem.W.fnOf "uncovered" "uncovered" (defArgs s_uncovered) (defBody s_uncovered) (defScope s_uncovered) .none kV_uncovered dc_uncovered pm_uncovered an_uncovered cd_uncovered ct_uncovered), sl_uncovered⟩) (c_uncovered : PySem.W.codeIn K cd_uncovered "uncovered" = true) (k_uncovered : PySem.W.keepIn K (.ref f_uncovered) = true)
    (a_is_covered : PySem.W.nsIn K mainGlobals "is_covered" = some (some (.ref f_is_covered))) (l_is_covered : K.lookup f_is_covered = some ⟨oc_is_covered, od_is_covered, .func (PySem.W.fnOf "is_covered" "is_covered" (defArgs s_is_covered) (defBody s_is_covered) (defScope s_is_covered) .none kV_is_covered dc_is_covered pm_is_covered an_is_covered cd_is_covered ct_is_covered), sl_is_covered⟩) (c_is_covered : PySem.W.codeIn K cd_is_covered "is_covered" = true) (k_is_covered : PySem.W.keepIn K (.ref f_is_covered) = true)
    (a_pairing_sum : PySem.W.nsIn K mainGlobals "pairing_sum" = some (some (.ref f_pairing_sum))) (l_pairing_sum : K.lookup f_pairing_sum = some ⟨oc_pairing_sum, od_pairing_sum, .func (PySem.W.fnOf "pairing_sum" "pairing_sum" (defArgs s_pairing_sum) (defBody s_pairing_sum) (defScope s_pairing_sum) .none kV_pairing_sum dc_pairing_sum pm_pairing_sum an_pairing_sum cd_pairing_sum ct_pairing_sum), sl_pairing_sum⟩) (c_pairing_sum : PySem.W.codeIn K cd_pairing_sum "pairing_sum" = true) (k_pairing_sum : PySem.W.keepIn K (.ref f_pairing_sum) = true)
    (a_sign : PySem.W.nsIn K mainGlobals "sign" = some (some (.ref f_sign))) (l_sign : K.lookup f_sign = some ⟨oc_sign, od_sign, .func (PySem.W.fnOf "sign" "sign" (defArgs s_sign) (defBody s_sign) (defScope s_sign) .none kV_sign dc_sign pm_sign an_sign cd_sign ct_sign), sl_sign⟩) (c_sign : PySem.W.codeIn K cd_sign "sign" = true) (k_sign : PySem.W.keepIn K (.ref f_sign) = true)
    (a_turned_sign : PySem.W.nsIn K mainGlobals "turned_sign" = some (some (.ref f_turned_sign))) (l_turned_sign : K.lookup f_turned_sign = some ⟨oc_turned_sign, od_turned_sign, .func (PySem.W.fnOf "turned_sign" "turned_sign" (defArgs s_turned_sign) (defBody s_turned_sign) (defScope s_turned_sign) .none kV_turned_sign dc_turned_sign pm_turned_sign an_turned_sign cd_turned_sign ct_turned_sign), sl_turned_sign⟩) (c_turned_sign : PySem.W.codeIn K cd_turned_sign "turned_sign" = true) (k_turned_sign : PySem.W.keepIn K (.ref f_turned_sign) = true)
    (a_without : PySem.W.nsIn K mainGlobals "without" = some (some (.ref f_without))) (l_without : K.lookup f_without = some ⟨oc_without, od_without, .func (PySem.W.fnOf "without" "without" (defArgs s_without) (defBody s_without) (defScope s_without) .none kV_without dc_without pm_without an_without cd_without ct_without), sl_without⟩) (c_without : PySem.W.codeIn K cd_without "without" = true) (k_without : PySem.W.keepIn K (.ref f_without) = true)
    (a_kernel : PySem.W.nsIn K mainGlobals "kernel" = some (some (.ref f_kernel))) (l_kernel : K.lookup f_kernel = some ⟨oc_kernel, od_kernel, .func (PySem.W.fnOf "kernel" "kernel" (defArgs s_kernel) (defBody s_kernel) (defScope s_kernel) .none kV_kernel dc_kernel pm_kernel an_kernel cd_kernel ct_kernel), sl_kernel⟩) (c_kernel : PySem.W.codeIn K cd_kernel "kernel" = true) (k_kernel : PySem.W.keepIn K (.ref f_kernel) = true)
    (a_score : PySem.W.nsIn K mainGlobals "score" = some (some (.ref f_score))) (l_score : K.lookup f_score = some ⟨oc_score, od_score, .func (PySem.W.fnOf "score" "score" (defArgs s_score) (defBody s_score) (defScope s_score) .none kV_score dc_score pm_score an_score cd_score ct_score), sl_score⟩) (c_score : PySem.W.codeIn K cd_score "score" = true) (k_score : PySem.W.keepIn K (.ref f_score) = true)
    (a_weight_of : PySem.W.nsIn K mainGlobals "weight_of" = some (some (.ref f_weight_of))) (l_weight_of : K.lookup f_weight_of = some ⟨oc_weight_of, od_weight_of, .func (PySem.W.fnOf "weight_of" "weight_of" (defArgs s_weight_of) (defBody s_weight_of) (defScope s_weight_of) .none kV_weight_of dc_weight_of pm_weight_of an_weight_of cd_weight_of ct_weight_of), sl_weight_of⟩) (c_weight_of : PySem.W.codeIn K cd_weight_of "weight_of" = true) (k_weight_of : PySem.W.keepIn K (.ref f_weight_of) = true)
    (a_is_even : PySem.W.nsIn K mainGlobals "is_even" = some (some (.ref f_is_even))) (l_is_even : K.lookup f_is_even = some ⟨oc_is_even, od_is_even, .func (PySem.W.fnOf "is_even" "is_even" (defArgs s_is_even) (defBody s_is_even) (defScope s_is_even) .none kV_is_even dc_is_even pm_is_even an_is_even cd_is_even ct_is_even), sl_is_even⟩) (c_is_even : PySem.W.codeIn K cd_is_even "is_even" = true) (k_is_even : PySem.W.keepIn K (.ref f_is_even) = true)
    (a_is_even_at : PySem.W.nsIn K mainGlobals "is_even_at" = some (some (.ref f_is_even_at))) (l_is_even_at : K.lookup f_is_even_at = some ⟨oc_is_even_at, od_is_even_at, .func (PySem.W.fnOf "is_even_at" "is_even_at" (defArgs s_is_even_at) (defBody s_is_even_at) (defScope s_is_even_at) .none kV_is_even_at dc_is_even_at pm_is_even_at an_is_even_at cd_is_even_at ct_is_even_at), sl_is_even_at⟩) (c_is_even_at : PySem.W.codeIn K cd_is_even_at "is_even_at" = true) (k_is_even_at : PySem.W.keepIn K (.ref f_is_even_at) = true)
    (a_weighing : PySem.W.nsIn K mainGlobals "weighing" = some (some (.ref f_weighing))) (l_weighing : K.lookup f_weighing = some ⟨oc_weighing, od_weighing, .func (PySem.W.fnOf "weighing" "weighing" (defArgs s_weighing) (defBody s_weighing) (defScope s_weighing) .none kV_weighing dc_weighing pm_weighing an_weighing cd_weighing ct_weighing), sl_weighing⟩) (c_weighing : PySem.W.codeIn K cd_weighing "weighing" = true) (k_weighing : PySem.W.keepIn K (.ref f_weighing) = true)
    (a_odd_picks : PySem.W.nsIn K mainGlobals "odd_picks" = some (some (.ref f_odd_picks))) (l_odd_picks : K.lookup f_odd_picks = some ⟨oc_odd_picks, od_odd_picks, .func (PySem.W.fnOf "odd_picks" "odd_picks" (defArgs s_odd_picks) (defBody s_odd_picks) (defScope s_odd_picks) .none kV_odd_picks dc_odd_picks pm_odd_picks an_odd_picks cd_odd_picks ct_odd_picks), sl_odd_picks⟩) (c_odd_picks : PySem.W.codeIn K cd_odd_picks "odd_picks" = true) (k_odd_picks : PySem.W.keepIn K (.ref f_odd_picks) = true)
    (a_weights_on : PySem.W.nsIn K mainGlobals "weights_on" = some (some (.ref f_weights_on))) (l_weights_on : K.lookup f_weights_on = some ⟨oc_weights_on, od_weights_on, .func (PySem.W.fnOf "weights_on" "weights_on" (defArgs s_weights_on) (defBody s_weights_on) (defScope s_weights_on) .none kV_weights_on dc_weights_on pm_weights_on an_weights_on cd_weights_on ct_weights_on), sl_weights_on⟩) (c_weights_on : PySem.W.codeIn K cd_weights_on "weights_on" = true) (k_weights_on : PySem.W.keepIn K (.ref f_weights_on) = true)
    (a_common_divisor : PySem.W.nsIn K mainGlobals "common_divisor" = some (some (.ref f_common_divisor))) (l_common_divisor : K.lookup f_common_divisor = some ⟨oc_common_divisor, od_common_divisor, .func (PySem.W.fnOf "common_divisor" "common_divisor" (defArgs s_common_divisor) (defBody s_common_divisor) (defScope s_common_divisor) .none kV_common_divisor dc_common_divisor pm_common_divisor an_common_divisor cd_common_divisor ct_common_divisor), sl_common_divisor⟩) (c_common_divisor : PySem.W.codeIn K cd_common_divisor "common_divisor" = true) (k_common_divisor : PySem.W.keepIn K (.ref f_common_divisor) = true)
    (a_divisor_of_two : PySem.W.nsIn K mainGlobals "divisor_of_two" = some (some (.ref f_divisor_of_two))) (l_divisor_of_two : K.lookup f_divisor_of_two = some ⟨oc_divisor_of_two, od_divisor_of_two, .func (PySem.W.fnOf "divisor_of_two" "divisor_of_two" (defArgs s_divisor_of_two) (defBody s_divisor_of_two) (defScope s_divisor_of_two) .none kV_divisor_of_two dc_divisor_of_two pm_divisor_of_two an_divisor_of_two cd_divisor_of_two ct_divisor_of_two), sl_divisor_of_two⟩) (c_divisor_of_two : PySem.W.codeIn K cd_divisor_of_two "divisor_of_two" = true) (k_divisor_of_two : PySem.W.keepIn K (.ref f_divisor_of_two) = true)
    (a__law_whole : PySem.W.nsIn K mainGlobals "_law_whole" = some (some (.ref f__law_whole))) (l__law_whole : K.lookup f__law_whole = some ⟨oc__law_whole, od__law_whole, .func (PySem.W.fnOf "_law_whole" "_law_whole" (defArgs s__law_whole) (defBody s__law_whole) (defScope s__law_whole) .none kV__law_whole dc__law_whole pm__law_whole an__law_whole cd__law_whole ct__law_whole), sl__law_whole⟩) (c__law_whole : PySem.W.codeIn K cd__law_whole "_law_whole" = true) (k__law_whole : PySem.W.keepIn K (.ref f__law_whole) = true)
    (a__law_cell_at : PySem.W.nsIn K mainGlobals "_law_cell_at" = some (some (.ref f__law_cell_at))) (l__law_cell_at : K.lookup f__law_cell_at = some ⟨oc__law_cell_at, od__law_cell_at, .func (PySem.W.fnOf "_law_cell_at" "_law_cell_at" (defArgs s__law_cell_at) (defBody s__law_cell_at) (defScope s__law_cell_at) .none kV__law_cell_at dc__law_cell_at pm__law_cell_at an__law_cell_at cd__law_cell_at ct__law_cell_at), sl__law_cell_at⟩) (c__law_cell_at : PySem.W.codeIn K cd__law_cell_at "_law_cell_at" = true) (k__law_cell_at : PySem.W.keepIn K (.ref f__law_cell_at) = true)
    (a__law_table : PySem.W.nsIn K mainGlobals "_law_table" = some (some (.ref f__law_table))) (l__law_table : K.lookup f__law_table = some ⟨oc__law_table, od__law_table, .func (PySem.W.fnOf "_law_table" "_law_table" (defArgs s__law_table) (defBody s__law_table) (defScope s__law_table) .none kV__law_table dc__law_table pm__law_table an__law_table cd__law_table ct__law_table), sl__law_table⟩) (c__law_table : PySem.W.codeIn K cd__law_table "_law_table" = true) (k__law_table : PySem.W.keepIn K (.ref f__law_table) = true)
    (a__law_alike : PySem.W.nsIn K mainGlobals "_law_alike" = some (some (.ref f__law_alike))) (l__law_alike : K.lookup f__law_alike = some ⟨oc__law_alike, od__law_alike, .func (PySem.W.fnOf "_law_alike" "_law_alike" (defArgs s__law_alike) (defBody s__law_alike) (defScope s__law_alike) .none kV__law_alike dc__law_alike pm__law_alike an__law_alike cd__law_alike ct__law_alike), sl__law_alike⟩) (c__law_alike : PySem.W.codeIn K cd__law_alike "_law_alike" = true) (k__law_alike : PySem.W.keepIn K (.ref f__law_alike) = true)
    (a_law : PySem.W.nsIn K mainGlobals "law" = some (some (.ref f_law))) (l_law : K.lookup f_law = some ⟨oc_law, od_law, .func (PySem.W.fnOf "law" "law" (defArgs s_law) (defBody s_law) (defScope s_law) .none kV_law dc_law pm_law an_law cd_law ct_law), sl_law⟩) (c_law : PySem.W.codeIn K cd_law "law" = true) (k_law : PySem.W.keepIn K (.ref f_law) = true)
    (z_all : PySem.W.nsIn K mainGlobals "all" = some none) (z_enumerate : PySem.W.nsIn K mainGlobals "enumerate" = some none) (z_range : PySem.W.nsIn K mainGlobals "range" = some none) (z_len : PySem.W.nsIn K mainGlobals "len" = some none) (z_any : PySem.W.nsIn K mainGlobals "any" = some none) (z_sum : PySem.W.nsIn K mainGlobals "sum" = some none) (z_min : PySem.W.nsIn K mainGlobals "min" = some none) (z_max : PySem.W.nsIn K mainGlobals "max" = some none) (z_abs : PySem.W.nsIn K mainGlobals "abs" = some none) (z_zip : PySem.W.nsIn K mainGlobals "zip" = some none) (z_int : PySem.W.nsIn K mainGlobals "int" = some none) (z_isinstance : PySem.W.nsIn K mainGlobals "isinstance" = some none) (z_bool : PySem.W.nsIn K mainGlobals "bool" = some none) (z_list : PySem.W.nsIn K mainGlobals "list" = some none) :
    ∃ fd : FuncData, (∀ (s : Shared) (v : Value), BindsTo s fd ⟨[v], []⟩ [("script", v)]) ∧ ∀ base : Heap, K.In base → base.Ns mainGlobals mg → FnOk l.prog w K mg base CX0 20 fa fd ["script"] (spLaw K m_law) := by
  have e := hfa.symm.trans (PySem.W.mg_of X G a_law)
  cases e
  have T : Txt mg := ⟨PySem.W.mg_none_of X G z_all, PySem.W.mg_none_of X G z_enumerate, PySem.W.mg_none_of X G z_range, PySem.W.mg_none_of X G z_len, PySem.W.mg_none_of X G z_any, PySem.W.mg_none_of X G z_sum, PySem.W.mg_none_of X G z_min, PySem.W.mg_none_of X G z_max, PySem.W.mg_none_of X G z_abs, PySem.W.mg_none_of X G z_zip, PySem.W.mg_none_of X G z_int, PySem.W.mg_none_of X G z_isinstance, PySem.W.mg_none_of X G z_bool, PySem.W.mg_none_of X G z_list⟩
  have F_part := fun_mk (st := s_part) l_part c_part k_part
  have b_part := F_part.binds (ps := P_part) fun _ _ _ _ _ _ us hl => match us, hl with | [_, _], _ => rfl
  have F_picked := fun_mk (st := s_picked) l_picked c_picked k_picked
  have b_picked := F_picked.binds (ps := P_picked) fun _ _ _ _ _ _ us hl => match us, hl with | [_, _], _ => rfl
  have F_column := fun_mk (st := s_column) l_column c_column k_column
  have b_column := F_column.binds (ps := P_column) fun _ _ _ _ _ _ us hl => match us, hl with | [_, _], _ => rfl
  have F_beaten_by := fun_mk (st := s_beaten_by) l_beaten_by c_beaten_by k_beaten_by
  have b_beaten_by := F_beaten_by.binds (ps := P_beaten_by) fun _ _ _ _ _ _ us hl => match us, hl with | [_, _], _ => rfl
  have F_beaters_of := fun_mk (st := s_beaters_of) l_beaters_of c_beaters_of k_beaters_of
  have b_beaters_of := F_beaters_of.binds (ps := P_beaters_of) fun _ _ _ _ _ _ us hl => match us, hl with | [_, _], _ => rfl
  have F_beats_all := fun_mk (st := s_beats_all) l_beats_all c_beats_all k_beats_all
  have b_beats_all := F_beats_all.binds (ps := P_beats_all) fun _ _ _ _ _ _ us hl => match us, hl with | [_, _, _], _ => rfl
  have F_places_true := fun_mk (st := s_places_true) l_places_true c_places_true k_places_true
  have b_places_true := F_places_true.binds (ps := P_places_true) fun _ _ _ _ _ _ us hl => match us, hl with | [_], _ => rfl
  have F_covers := fun_mk (st := s_covers) l_covers c_covers k_covers
  have b_covers := F_covers.binds (ps := P_covers) fun _ _ _ _ _ _ us hl => match us, hl with | [_, _, _], _ => rfl
  have F_uncovered := fun_mk (st := s_uncovered) l_uncovered c_uncovered k_uncovered
  have b_uncovered := F_uncovered.binds (ps := P_uncovered) fun _ _ _ _ _ _ us hl => match us, hl with | [_], _ => rfl
  have F_is_covered := fun_mk (st := s_is_covered) l_is_covered c_is_covered k_is_covered
  have b_is_covered := F_is_covered.binds (ps := P_is_covered) fun _ _ _ _ _ _ us hl => match us, hl with | [_, _], _ => rfl
  have F_pairing_sum := fun_mk (st := s_pairing_sum) l_pairing_sum c_pairing_sum k_pairing_sum
  have b_pairing_sum := F_pairing_sum.binds (ps := P_pairing_sum) fun _ _ _ _ _ _ us hl => match us, hl with | [_], _ => rfl
  have F_sign := fun_mk (st := s_sign) l_sign c_sign k_sign
  have b_sign := F_sign.binds (ps := P_sign) fun _ _ _ _ _ _ us hl => match us, hl with | [_, _], _ => rfl
  have F_turned_sign := fun_mk (st := s_turned_sign) l_turned_sign c_turned_sign k_turned_sign
  have b_turned_sign := F_turned_sign.binds (ps := P_turned_sign) fun _ _ _ _ _ _ us hl => match us, hl with | [_], _ => rfl
  have F_without := fun_mk (st := s_without) l_without c_without k_without
  have b_without := F_without.binds (ps := P_without) fun _ _ _ _ _ _ us hl => match us, hl with | [_, _], _ => rfl
  have F_kernel := fun_mk (st := s_kernel) l_kernel c_kernel k_kernel
  have b_kernel := F_kernel.binds (ps := P_kernel) fun _ _ _ _ _ _ us hl => match us, hl with | [_], _ => rfl
  have F_score := fun_mk (st := s_score) l_score c_score k_score
  have b_score := F_score.binds (ps := P_score) fun _ _ _ _ _ _ us hl => match us, hl with | [_, _, _], _ => rfl
  have F_weight_of := fun_mk (st := s_weight_of) l_weight_of c_weight_of k_weight_of
  have b_weight_of := F_weight_of.binds (ps := P_weight_of) fun _ _ _ _ _ _ us hl => match us, hl with | [_, _], _ => rfl
  have F_is_even := fun_mk (st := s_is_even) l_is_even c_is_even k_is_even
  have b_is_even := F_is_even.binds (ps := P_is_even) fun _ _ _ _ _ _ us hl => match us, hl with | [_, _], _ => rfl
  have F_is_even_at := fun_mk (st := s_is_even_at) l_is_even_at c_is_even_at k_is_even_at
  have b_is_even_at := F_is_even_at.binds (ps := P_is_even_at) fun _ _ _ _ _ _ us hl => match us, hl with | [_, _, _], _ => rfl
  have F_weighing := fun_mk (st := s_weighing) l_weighing c_weighing k_weighing
  have b_weighing := F_weighing.binds (ps := P_weighing) fun _ _ _ _ _ _ us hl => match us, hl with | [_], _ => rfl
  have F_odd_picks := fun_mk (st := s_odd_picks) l_odd_picks c_odd_picks k_odd_picks
  have b_odd_picks := F_odd_picks.binds (ps := P_odd_picks) fun _ _ _ _ _ _ us hl => match us, hl with | [_], _ => rfl
  have F_weights_on := fun_mk (st := s_weights_on) l_weights_on c_weights_on k_weights_on
  have b_weights_on := F_weights_on.binds (ps := P_weights_on) fun _ _ _ _ _ _ us hl => match us, hl with | [_, _], _ => rfl
  have F_common_divisor := fun_mk (st := s_common_divisor) l_common_divisor c_common_divisor k_common_divisor
  have b_common_divisor := F_common_divisor.binds (ps := P_common_divisor) fun _ _ _ _ _ _ us hl => match us, hl with | [_], _ => rfl
  have F_divisor_of_two := fun_mk (st := s_divisor_of_two) l_divisor_of_two c_divisor_of_two k_divisor_of_two
  have b_divisor_of_two := F_divisor_of_two.binds (ps := P_divisor_of_two) fun _ _ _ _ _ _ us hl => match us, hl with | [_, _], _ => rfl
  have F__law_whole := fun_mk (st := s__law_whole) l__law_whole c__law_whole k__law_whole
  have b__law_whole := F__law_whole.binds (ps := P__law_whole) fun _ _ _ _ _ _ us hl => match us, hl with | [_], _ => rfl
  have F__law_cell_at := fun_mk (st := s__law_cell_at) l__law_cell_at c__law_cell_at k__law_cell_at
  have b__law_cell_at := F__law_cell_at.binds (ps := P__law_cell_at) fun _ _ _ _ _ _ us hl => match us, hl with | [_, _], _ => rfl
  have F__law_table := fun_mk (st := s__law_table) l__law_table c__law_table k__law_table
  have b__law_table := F__law_table.binds (ps := P__law_table) fun _ _ _ _ _ _ us hl => match us, hl with | [_, _], _ => rfl
  have F__law_alike := fun_mk (st := s__law_alike) l__law_alike c__law_alike k__law_alike
  have b__law_alike := F__law_alike.binds (ps := P__law_alike) fun _ _ _ _ _ _ us hl => match us, hl with | [_, _], _ => rfl
  have F_law := fun_mk (st := s_law) l_law c_law k_law
  have b_law := F_law.binds (ps := P_law) fun _ _ _ _ _ _ us hl => match us, hl with | [_], _ => rfl
  refine ⟨PySem.W.fnOf "law" "law" (defArgs s_law) (defBody s_law) (defScope s_law) .none kV_law dc_law pm_law an_law cd_law ct_law, fun s v => .of_eq rfl, fun base KB GB => ?_⟩
  have G_picked : DefOk l.prog w K mg base 1 "picked" (spN K m_picked) := ok_picked F_picked (PySem.W.mg_of X G a_picked) b_picked T
  have G_part : DefOk l.prog w K mg base 2 "part" (spN K m_part) := ok_part F_part (PySem.W.mg_of X G a_part) b_part T G_picked
  have G_column : DefOk l.prog w K mg base 1 "column" (spN K m_column) := ok_column F_column (PySem.W.mg_of X G a_column) b_column T
  have G_beats_all : DefOk l.prog w K mg base 1 "beats_all" (spN K m_beats_all) := ok_beats_all F_beats_all (PySem.W.mg_of X G a_beats_all) b_beats_all T
  have G_places_true : DefOk l.prog w K mg base 1 "places_true" (spN K m_places_true) := ok_places_true F_places_true (PySem.W.mg_of X G a_places_true) b_places_true T
  have G_beaten_by : DefOk l.prog w K mg base 2 "beaten_by" (spN K m_beaten_by) := ok_beaten_by F_beaten_by (PySem.W.mg_of X G a_beaten_by) b_beaten_by T G_places_true
  have G_beaters_of : DefOk l.prog w K mg base 2 "beaters_of" (spN K m_beaters_of) := ok_beaters_of F_beaters_of (PySem.W.mg_of X G a_beaters_of) b_beaters_of T G_column G_places_true
  have G_covers : DefOk l.prog w K mg base 3 "covers" (spN K m_covers) := ok_covers F_covers (PySem.W.mg_of X G a_covers) b_covers T G_beats_all G_beaten_by
  have G_is_covered : DefOk l.prog w K mg base 4 "is_covered" (spN K m_is_covered) := ok_is_covered F_is_covered (PySem.W.mg_of X G a_is_covered) b_is_covered T G_covers
  have G_uncovered : DefOk l.prog w K mg base 5 "uncovered" (spN K m_uncovered) := ok_uncovered F_uncovered (PySem.W.mg_of X G a_uncovered) b_uncovered T G_is_covered
  have G_sign : DefOk l.prog w K mg base 1 "sign" (spN K m_sign) := ok_sign F_sign (PySem.W.mg_of X G a_sign) b_sign T
  have G_turned_sign : DefOk l.prog w K mg base 1 "turned_sign" (spN K m_turned_sign) := ok_turned_sign F_turned_sign (PySem.W.mg_of X G a_turned_sign) b_turned_sign T
  have G_without : DefOk l.prog w K mg base 3 "without" (spN K m_without) := ok_without F_without (PySem.W.mg_of X G a_without) b_without T G_part
  have G_pairing_sum : DefOk l.prog w K mg base 16 "pairing_sum" (spN K m_pairing_sum) := ok_pairing_sum F_pairing_sum (PySem.W.mg_of X G a_pairing_sum) b_pairing_sum T G_sign G_turned_sign G_without
  have G_kernel : DefOk l.prog w K mg base 17 "kernel" (spN K m_kernel) := ok_kernel F_kernel (PySem.W.mg_of X G a_kernel) b_kernel T G_turned_sign G_without G_pairing_sum
  have G_weight_of : DefOk l.prog w K mg base 1 "weight_of" (spN K m_weight_of) := ok_weight_of F_weight_of (PySem.W.mg_of X G a_weight_of) b_weight_of T
  have G_score : DefOk l.prog w K mg base 3 "score" (spN K m_score) := ok_score F_score (PySem.W.mg_of X G a_score) b_score T G_beaten_by G_beaters_of G_weight_of
  have G_is_even_at : DefOk l.prog w K mg base 4 "is_even_at" (spN K m_is_even_at) := ok_is_even_at F_is_even_at (PySem.W.mg_of X G a_is_even_at) b_is_even_at T G_score
  have G_is_even : DefOk l.prog w K mg base 5 "is_even" (spN K m_is_even) := ok_is_even F_is_even (PySem.W.mg_of X G a_is_even) b_is_even T G_is_even_at
  have G_odd_picks : DefOk l.prog w K mg base 1 "odd_picks" (spR K m_odd_picks) := ok_odd_picks F_odd_picks (PySem.W.mg_of X G a_odd_picks) b_odd_picks T
  have G_divisor_of_two : DefOk l.prog w K mg base 1 "divisor_of_two" (spN K m_divisor_of_two) := ok_divisor_of_two F_divisor_of_two (PySem.W.mg_of X G a_divisor_of_two) b_divisor_of_two T
  have G_common_divisor : DefOk l.prog w K mg base 2 "common_divisor" (spN K m_common_divisor) := ok_common_divisor F_common_divisor (PySem.W.mg_of X G a_common_divisor) b_common_divisor T G_divisor_of_two
  have G_weights_on : DefOk l.prog w K mg base 18 "weights_on" (spN K m_weights_on) := ok_weights_on F_weights_on (PySem.W.mg_of X G a_weights_on) b_weights_on T G_part G_kernel G_common_divisor
  have G_weighing : DefOk l.prog w K mg base 19 "weighing" (spN K m_weighing) := ok_weighing F_weighing (PySem.W.mg_of X G a_weighing) b_weighing T G_uncovered G_is_even G_odd_picks G_weights_on
  have G__law_whole : DefOk l.prog w K mg base 1 "_law_whole" (spN K m__law_whole) := ok__law_whole F__law_whole (PySem.W.mg_of X G a__law_whole) b__law_whole T
  have G__law_cell_at : DefOk l.prog w K mg base 1 "_law_cell_at" (spN K m__law_cell_at) := ok__law_cell_at F__law_cell_at (PySem.W.mg_of X G a__law_cell_at) b__law_cell_at T
  have G__law_table : DefOk l.prog w K mg base 2 "_law_table" (spN K m__law_table) := ok__law_table F__law_table (PySem.W.mg_of X G a__law_table) b__law_table T G__law_cell_at
  have G__law_alike : DefOk l.prog w K mg base 18 "_law_alike" (spN K m__law_alike) := ok__law_alike F__law_alike (PySem.W.mg_of X G a__law_alike) b__law_alike T G_kernel G__law_whole
  exact law_of (ok_law F_law T G_weighing G__law_cell_at G__law_table G__law_alike)
theorem walk {l : PySem.W.OpenLaw} {q : Program} {loose : List Str} {XP : (Str → Option Value) → Heap → Prop} {YP : World → Heap → Prop} {d : DefRec} {K : Params → PySem.W.Frag} (hn : l.most = some 63) (hdf : d.params.defaults = [])
    (hlaw : ∀ ns : List Int, ns.length ≤ 63 → m_law [.scr ns] = some (.bl true)) (hY : ∀ (w : World) (h : Heap), YP w h → (K w.params).In h)
    (F : ∀ (w : World) (mg : Str → Option Value) (fa : Addr) (h : Heap), (K w.params).In h → h.Ns mainGlobals mg → mg d.name = some (.ref fa) →
      ∃ fd : FuncData, (∀ (s : Shared) (u : Value), BindsTo s fd ⟨[u], []⟩ [("script", u)]) ∧ ∀ base : Heap, (K w.params).In base → base.Ns mainGlobals mg → FnOk l.prog w (K w.params) mg base CX0 20 fa fd ["script"] (spLaw (K w.params) m_law)) :
    PySem.W.WalkO q loose XP YP l.row.toRowW d [] (fun f vs => PySem.call f vs) :=
  L2.walk_of (n := 63) (k := 20) (x := "script") (CX := fun _ => CX0) (sp := fun w => spLaw (K w.params) m_law) hn (by decide) hdf ⟨rfl, by decide, by decide⟩ hY F (fun _ _ a ns hl hO hS => ⟨a, ns, rfl, only_sqF hO hS, hlaw ns hl, fun _ => rfl⟩) fun _ _ _ _ _ z => z
end Prg

namespace Prg
open PySem L2
local macro_rules | `(tactic| simp! only [$xs,*] $[$loc]?) => `(tactic| simp only [ev_var0, ev_varS, ev_C, ev_d2, ev_d1, ev_test, ev_truth, ev_andT, ev_orT, ev_notT, ev_and, ev_or, ev_if, ev_args0, ev_argsS, ev_call, ev_callL, ev_mkL, ev_mkT, ev_mkFlat, ev_mkImm, ev_is, ev_seq, ev_rng1, ev_rng2, ev_comp, ev_part, ev_nopart, ev_cut, ev_seqO, ev_skip, ev_bk, ev_ct, ev_asgS, ev_asgI, ev_asgN, ev_retI, ev_retN, ev_retS, ev_retO, ev_ifO, ev_forO, ev_frz, ev_st0, ev_st1, ev_m0, ev_m1, ev_asgM, ev_app0N, ev_ins0N, ev_small, ev_comp2, ev_enum, ev_chain, ev_din', ev_dnin, ev_dput, ev_exprN, ev_cat, ev_revL, ev_clr0, ev_ext0N, ev_rng3, ev_isN, ev_notN, ev_mov, ev_revS, ev_chkIf, ev_chkSeq, ev_forC, ev_raise, ev_callX, ev_callV, ev_callM, ev_forO2, ev_disp1, ev_rngN, ev_rep, ev_step, ev_ixX, ev_retX, ev_exprX, ev_asgX, ev_try, ev_asX, ev_ret2, ev_ret3, ev_forI, ev_catS, ev_sortS, ev_cutT, ev_iv1, ev_iv2, ev_ifNX, eo_xnT, eo_xnF, eo_xnE, ev_forX, eo_fxL, eo_fxE, ev_callM2, eo_cM2, ev_ret1, eo_r1, ev_appO, ev_ext0D, ev_st0N, eo_2, eo_and, eo_andt, eo_andf, eo_or, eo_ort, eo_orf, eo_andT, eo_andTt, eo_andTf, eo_orT, eo_orTt, eo_orTf, eo_itet, eo_itef, eo_cons, eo_nx, eo_rt, eo_bk, eo_ct, eo_set, eo_rtO, eo_for, eo_immI, eo_immB, eo_immN, eo_immS, eo_immR, eo_part, eo_cutL, eo_cutR, eo_put, eo_in, eo_ex, eo_revL, eo_clr, eo_mov, eo_ckf, eo_csn, eo_raise, eo_ixXe, eo_for2, eo_val, eo_xrV, eo_xrE, eo_xeV, eo_xeE, eo_xaV, eo_xaE, eo_bex, eo_trN, eo_trR, eo_trE, eo_unN, eo_unR, eo_r2, eo_r3, eo_forI, ea_at0, ea_at1, ea_at2, ea_mkD1, ea_ixLL, ea_add, ea_sub, ea_lt, ea_le, ea_gt, ea_ge, ea_eqI, ea_neI, ea_eqB, ea_neB, ea_neg, ea_not, ea_truB, ea_truI, ea_truL, ea_truN, ea_seqL, ea_seqT, ea_seqR, ea_lenL, ea_lenT, ea_lenR, ea_listL, ea_listT, ea_listR, ea_tupL, ea_tupT, ea_ixL, ea_ixT, ea_ixR, ea_isBB, ea_isBI, ea_isII, ea_isIB, ea_isLL, ea_isLT, ea_isTT, ea_isLN, ea_asB, ea_asI, ea_asL, ea_intI, ea_intB, ea_revT, ea_max, ea_isB, ea_notB, ea_revF, es_own0, es_own1, es_ownS, es_all0, es_allS, es_sh0, es_shS, es_v1, es_v2, es_val1, es_val2, es_val3, es_shO, es_drop0, es_dropS, es_dropSh, es_dropOw, es_dropN, es_ow0, es_owS, es_frz0, es_frzS, eb_bs, eb_bn, eb_ms, eb_mn, eb_s0, eb_sS, eb_mc, eb_mnil, eb_rS, eb_r0, eb_ca, eb_na, $xs,*] $[$loc]?)
local macro_rules | `(tactic| simp_all! only [$xs,*]) => `(tactic| simp only [ev_var0, ev_varS, ev_C, ev_d2, ev_d1, ev_test, ev_truth, ev_andT, ev_orT, ev_notT, ev_and, ev_or, ev_if, ev_args0, ev_argsS, ev_call, ev_callL, ev_mkL, ev_mkT, ev_mkFlat, ev_mkImm, ev_is, ev_seq, ev_rng1, ev_rng2, ev_comp, ev_part, ev_nopart, ev_cut, ev_seqO, ev_skip, ev_bk, ev_ct, ev_asgS, ev_asgI, ev_asgN, ev_retI, ev_retN, ev_retS, ev_retO, ev_ifO, ev_forO, ev_frz, ev_st0, ev_st1, ev_m0, ev_m1, ev_asgM, ev_app0N, ev_ins0N, ev_small, ev_comp2, ev_enum, ev_chain, ev_din', ev_dnin, ev_dput, ev_exprN, ev_cat, ev_revL, ev_clr0, ev_ext0N, ev_rng3, ev_isN, ev_notN, ev_mov, ev_revS, ev_chkIf, ev_chkSeq, ev_forC, ev_raise, ev_callX, ev_callV, ev_callM, ev_forO2, ev_disp1, ev_rngN, ev_rep, ev_step, ev_ixX, ev_retX, ev_exprX, ev_asgX, ev_try, ev_asX, ev_ret2, ev_ret3, ev_forI, ev_catS, ev_sortS, ev_cutT, ev_iv1, ev_iv2, ev_ifNX, eo_xnT, eo_xnF, eo_xnE, ev_forX, eo_fxL, eo_fxE, ev_callM2, eo_cM2, ev_ret1, eo_r1, ev_appO, ev_ext0D, ev_st0N, eo_2, eo_and, eo_andt, eo_andf, eo_or, eo_ort, eo_orf, eo_andT, eo_andTt, eo_andTf, eo_orT, eo_orTt, eo_orTf, eo_itet, eo_itef, eo_cons, eo_nx, eo_rt, eo_bk, eo_ct, eo_set, eo_rtO, eo_for, eo_immI, eo_immB, eo_immN, eo_immS, eo_immR, eo_part, eo_cutL, eo_cutR, eo_put, eo_in, eo_ex, eo_revL, eo_clr, eo_mov, eo_ckf, eo_csn, eo_raise, eo_ixXe, eo_for2, eo_val, eo_xrV, eo_xrE, eo_xeV, eo_xeE, eo_xaV, eo_xaE, eo_bex, eo_trN, eo_trR, eo_trE, eo_unN, eo_unR, eo_r2, eo_r3, eo_forI, ea_at0, ea_at1, ea_at2, ea_mkD1, ea_ixLL, ea_add, ea_sub, ea_lt, ea_le, ea_gt, ea_ge, ea_eqI, ea_neI, ea_eqB, ea_neB, ea_neg, ea_not, ea_truB, ea_truI, ea_truL, ea_truN, ea_seqL, ea_seqT, ea_seqR, ea_lenL, ea_lenT, ea_lenR, ea_listL, ea_listT, ea_listR, ea_tupL, ea_tupT, ea_ixL, ea_ixT, ea_ixR, ea_isBB, ea_isBI, ea_isII, ea_isIB, ea_isLL, ea_isLT, ea_isTT, ea_isLN, ea_asB, ea_asI, ea_asL, ea_intI, ea_intB, ea_revT, ea_max, ea_isB, ea_notB, ea_revF, es_own0, es_own1, es_ownS, es_all0, es_allS, es_sh0, es_shS, es_v1, es_v2, es_val1, es_val2, es_val3, es_shO, es_drop0, es_dropS, es_dropSh, es_dropOw, es_dropN, es_ow0, es_owS, es_frz0, es_frzS, eb_bs, eb_bn, eb_ms, eb_mn, eb_s0, eb_sS, eb_mc, eb_mnil, eb_rS, eb_r0, eb_ca, eb_na, Int.reduceEq, Int.reduceLT, Int.reduceLE, Int.reduceGT, Int.reduceAdd, Int.reduceSub, Int.reduceMul, Int.reduceNeg, decide_true, decide_false, Bool.or_false, Bool.false_or, Bool.or_true, Bool.true_or, Bool.and_true, Bool.true_and, Bool.and_false, Bool.false_and, Bool.not_true, Bool.not_false, $xs,*])
theorem cell_at (ns : List Int) (k : Nat) : ∃ c : Int, m__law_cell_at [.scr ns, .int (k : Int)] = some (.int c) := by
  by_cases h : k < ns.length
  · refine ⟨ns[k], run_of rfl ?_⟩
    have h' : decide ((k : Int) < (ns.length : Int)) = true := by simp; omega
    simp! only [g__law_cell_at, h', at_nat h, hol_some]
  · refine ⟨0, run_of rfl ?_⟩
    have h' : decide ((k : Int) < (ns.length : Int)) = false := by simp; omega
    simp! only [g__law_cell_at, h', hol_some]

structure Full (m : Nat) (T : List (List Bool)) : Prop where
  sq : Sq m T
  own : ∀ i < m, at2 T i i = false
  two : ∀ i < m, ∀ j < m, i ≠ j → at2 T i j = !at2 T j i
theorem at2_false {m i j : Nat} : at2 (List.replicate m (List.replicate m false)) i j = false := by
  unfold at2
  simp only [List.getD, List.getElem?_replicate]
  by_cases h : i < m
  · simp only [h, if_true, Option.getD_some, List.getElem?_replicate]
    by_cases h2 : j < m <;> simp [h2]
  · simp [h]
theorem at2_set {T : List (List Bool)} {i j a b : Nat} {v : Bool} (hi : i < T.length) (hj : j < T[i].length) : at2 (T.set i (T[i].set j v)) a b = if a = i ∧ b = j then v else at2 T a b := by
  unfold at2
  by_cases h : a = i
  · subst h
    simp only [List.getD, List.getElem?_set_self hi, Option.getD_some, List.getElem?_eq_getElem hi]
    by_cases h2 : b = j
    · subst h2
      simp [hj]
    · simp [h2, List.getElem?_set_ne (Ne.symm h2)]
  · simp only [List.getD, List.getElem?_set_ne (Ne.symm h)]
    simp [h]
/-! a table filled from the upper half -/
structure Up (m : Nat) (T : List (List Bool)) (n n2 : Nat) : Prop where
  own : ∀ i < m, at2 T i i = false
  two : ∀ i j, i < j → j < m → i < n ∨ (i = n ∧ j < n2) → at2 T i j = !at2 T j i
theorem up0 {m : Nat} : Up m (List.replicate m (List.replicate m false)) 0 0 := ⟨fun _ _ => at2_false, fun _ _ _ _ h => by omega⟩
theorem Up.begin {m n : Nat} {T : List (List Bool)} (F : Up m T n 0) : Up m T n (n + 1) := ⟨F.own, fun i j h1 h2 h => F.two i j h1 h2 (by omega)⟩
theorem Up.row {m n : Nat} {T : List (List Bool)} (F : Up m T n m) : Up m T (n + 1) 0 := ⟨F.own, fun i j h1 h2 h => F.two i j h1 h2 (by omega)⟩
theorem Up.full {m : Nat} {T : List (List Bool)} (F : Up m T m 0) (sq : Sq m T) : Full m T := ⟨sq, F.own, fun i hi j hj hij => by
  by_cases h : i < j
  · exact F.two i j h hj (.inl hi)
  · rw [F.two j i (by omega) hi (.inl hj), Bool.not_not]⟩
theorem Up.next {m n j : Nat} {T : List (List Bool)} {b : Int} (F : Up m T n j) (sq : Sq m T) (hnj : n < j) (hj : j < m) (hb : b = 0 ∨ b = 1) (h1 : n < T.length) (h3 : j < (T.set n (T[n].set j (decide (b = 0)))).length) :
    Up m ((T.set n (T[n].set j (decide (b = 0)))).set j ((T.set n (T[n].set j (decide (b = 0))))[j].set n (decide (b = 1)))) n (j + 1) := by
  have h2 : j < T[n].length := by rw [sq.row h1]; exact hj
  have sq1 : Sq m (T.set n (T[n].set j (decide (b = 0)))) := sq.set h1
  have h4 : n < (T.set n (T[n].set j (decide (b = 0))))[j].length := by rw [sq1.row h3]; omega
  have e : ∀ x y, at2 ((T.set n (T[n].set j (decide (b = 0)))).set j ((T.set n (T[n].set j (decide (b = 0))))[j].set n (decide (b = 1)))) x y = if x = j ∧ y = n then decide (b = 1) else if x = n ∧ y = j then decide (b = 0) else at2 T x y := fun x y => by
    rw [at2_set h3 h4, at2_set h1 h2]
  refine ⟨fun i hi => ?_, fun i k hik hk h => ?_⟩
  · rw [e, if_neg (by omega), if_neg (by omega)]
    exact F.own i hi
  · rw [e, e]
    by_cases z : i = n ∧ k = j
    · obtain ⟨rfl, rfl⟩ := z
      rw [if_neg (by omega), if_pos ⟨rfl, rfl⟩, if_pos ⟨rfl, rfl⟩]
      rcases hb with rfl | rfl <;> rfl
    · rw [if_neg (by omega), if_neg z, if_neg (by omega), if_neg (by omega)]
      exact F.two i k hik hk (by omega)

theorem tab9 {m : Nat} (hm : m ≤ 1000) {ns : List Int} {a2 a3 a4 a5 a6 a7 a8 : Option D} : compX (some (rngL 0 m)) (compF dYes (mkFlat (dRep (mkL (dArgs [dC (.bl false)])) (dVar 1))) [some (.scr ns), some (.int (m : Int)), a2, a3, a4, a5, a6, a7, a8]) = some ((List.replicate m (List.replicate m false)).map rowD) := by
  rw [rng_nat, cx_all (fun _ => rowD (List.replicate m false)) (by simp; omega) fun x hx => ?_]
  · congr 1
    apply List.ext_getElem <;> simp
  · have e : (List.replicate m (D.bl false)) = (List.replicate m false).map bD := by rw [List.map_replicate]; rfl
    simp! only [eo_repN (show m ≤ 1000000 by omega), e, eo_flat (imms_map_bD _)]
    rfl
theorem table_eq (ns : List Int) (m : Nat) (hm : m ≤ 8) : hol (m__law_table [.scr ns, .int (m : Int)]) fun d => ∃ T, d = tabD T ∧ Full m T := by
  refine hol_run rfl ?_
  obtain ⟨c1, e1⟩ := cell_at ns 1
  have e1 : m__law_cell_at [.scr ns, .int 1] = some (.int c1) := e1
  have f1 : mulI (.int (m : Int)) (.int ((m : Int) - 1)) = some (.int ((m : Int) * ((m : Int) - 1))) := ea_mul (.inl (by omega))
  have f2 : divI (.int ((m : Int) * ((m : Int) - 1))) (.int 2) = some (.int ((m : Int) * ((m : Int) - 1) / 2)) := ea_div ⟨by omega, by omega⟩
  obtain ⟨pr, f3, hpr⟩ : ∃ pr : Int, maxF [.int 1, .int ((m : Int) * ((m : Int) - 1) / 2)] = some (.int pr) ∧ 0 < pr := by
    refine ⟨_, ea_max, ?_⟩
    split <;> omega
  obtain ⟨cc, dp⟩ : ∃ cc : Int, o2 modI (some (.int c1)) (powI (.int 10) (.int 12)) = some (.int cc) := by
    have pw : powI (.int 10) (.int 12) = some (.int (10 ^ 12)) := pow_lit 12 (by omega)
    rw [pw, eo_2, ea_mod (by omega)]
    exact ⟨_, rfl⟩
  have tl : D.lst ((List.replicate m (List.replicate m false)).map rowD) = tabD (List.replicate m (List.replicate m false)) := rfl
  simp! only [g__law_table, e1, f1, f2, f3, dp, rng1_nat (show m ≤ 1000000 by omega), tab9 (show m ≤ 1000 by omega), tl]
  refine hol_bindO (I := fun s => ∃ (T : List (List Bool)) (o5 o6 o7 o8 : Option SD), s = [some (.sh (.scr ns)), some (.sh (.int (m : Int))), some (.sh (.int pr)), some (.sh (.int cc)), some (.ow (tabD T)), o5, o6, o7, o8] ∧ Full m T) ?_ ?_
  · refine for_rng (fun n s => ∃ (T : List (List Bool)) (a : Nat) (o6 o7 o8 : Option SD), s = [some (.sh (.scr ns)), some (.sh (.int (m : Int))), some (.sh (.int pr)), some (.sh (.int cc)), some (.ow (tabD T)), some (.sh (.int (a : Int))), o6, o7, o8] ∧ Sq m T ∧ Up m T n 0 ∧ a ≤ n * 100) ?_ ?_ ?_
    · exact ⟨_, 0, none, none, none, rfl, ⟨by simp, by simp⟩, up0, by omega⟩
    · rintro n hn s ⟨T, a, o6, o7, o8, rfl, sq, F, ha⟩
      have hr2 : rng2 (some (.int ((n : Int) + 1))) (some (.int (m : Int))) = some (rngL ((n : Int) + 1) ((m : Int) - ((n : Int) + 1)).toNat) := eo_rng2 ⟨by omega, by omega, by omega, by omega⟩
      simp! only [Int.zero_add, hr2]
      refine for_rng (fun n2 s => ∃ (T : List (List Bool)) (o7 o8 : Option SD), s = [some (.sh (.scr ns)), some (.sh (.int (m : Int))), some (.sh (.int pr)), some (.sh (.int cc)), some (.ow (tabD T)), some (.sh (.int ((a + n2 : Nat) : Int))), some (.sh (.int (n : Int))), o7, o8] ∧ Sq m T ∧ Up m T n (n + 1 + n2)) ?_ ?_ ?_
      · exact ⟨T, o7, o8, rfl, sq, F.begin⟩
      · rintro n2 hn2 s ⟨T, o7, o8, rfl, sq, F⟩
        obtain ⟨j, hj⟩ : ∃ j : Nat, j = n + 1 + n2 := ⟨_, rfl⟩
        have hj' : (n : Int) + 1 + (n2 : Int) = (j : Int) := by omega
        have hjm : j < m := by omega
        rw [← hj] at F
        obtain ⟨at', hat⟩ : ∃ at' : Nat, at' = a + n2 := ⟨_, rfl⟩
        rw [← hat]
        have hat2 : at' ≤ 10000 := by omega
        have g1 : mulI (.int (at' : Int)) (.int (at' : Int)) = some (.int ((at' : Int) * (at' : Int))) := ea_mul (.inl (by omega))
        have hsq : (0 : Int) ≤ (at' : Int) * (at' : Int) ∧ (at' : Int) * (at' : Int) ≤ 10000 * 10000 := ⟨Int.mul_nonneg (by omega) (by omega), Int.mul_le_mul (by omega) (by omega) (by omega) (by omega)⟩
        obtain ⟨x2, g2⟩ : ∃ x2 : Int, divI (.int cc) (.int ((at' : Int) * (at' : Int) + 1)) = some (.int x2) := ⟨_, ea_div ⟨by omega, by omega⟩⟩
        obtain ⟨ms, g3⟩ := eo_stepR (ns := ns) (a := 2 + (at' : Int)) (k := pr) ⟨by omega, hpr⟩
        obtain ⟨x3, g4⟩ : ∃ x3 : Int, sumF [.lst (ms.map .int)] = some (.int x3) := ⟨_, ea_sum⟩
        obtain ⟨r, hr3, hb⟩ : ∃ r : Int, modI (.int (x3 + x2)) (.int 2) = some (.int r) ∧ (r = 0 ∨ r = 1) := ⟨_, ea_mod (by omega), Int.emod_two_eq _⟩
        have h1 : n < T.length := by rw [sq.1]; exact hn
        have h2 : j < T[n].length := by rw [sq.row h1]; exact hjm
        have e1 := st1_tabV (v := decide (r = 0)) h1 h2
        have sq1 : Sq m (T.set n (T[n].set j (decide (r = 0)))) := sq.set h1
        have h3 : j < (T.set n (T[n].set j (decide (r = 0)))).length := by rw [sq1.1]; exact hjm
        have h4 : n < (T.set n (T[n].set j (decide (r = 0))))[j].length := by rw [sq1.row h3]; exact hn
        have e2 := st1_tabV (v := decide (r = 1)) h3 h4
        have e4 : (!decide (r = 0)) = decide (r = 1) := by rcases hb with rfl | rfl <;> rfl
        have e3 : (at' : Int) + 1 = ((a + (n2 + 1) : Nat) : Int) := by omega
        simp! only [hj', g1, g2, g3, g4, hr3, e1, e4, e2, e3, hol_some]
        have F2 := F.next sq (by omega) hjm hb h1 h3
        have ej : n + 1 + (n2 + 1) = j + 1 := by omega
        rw [ej]
        exact ⟨_, _, _, rfl, sq1.set h3, F2⟩
      · rintro s ⟨T, o7, o8, rfl, sq, F⟩
        have hz : n + 1 + ((m : Int) - ((n : Int) + 1)).toNat = m := by omega
        rw [hz] at F
        exact ⟨T, _, _, _, _, rfl, sq, F.row, by omega⟩
    · rintro s ⟨T, a, o6, o7, o8, rfl, sq, F, ha⟩
      exact ⟨_, rfl, T, _, _, _, _, rfl, F.full sq⟩
  · rintro s ⟨T, o5, o6, o7, o8, rfl, F⟩
    simp! only [hol_some]
    exact ⟨_, rfl, T, rfl, F⟩

theorem column_eq {n : Nat} {T : List (List Bool)} (sq : Sq n T) (hn : n ≤ 1000) {k : Nat} (hk : k < n) : m_column [tabD T, .int (k : Int)] = some (rowD ((List.range n).map fun i => at2 T i k)) := by
  refine run_of rfl ?_
  have hl' : (T.map rowD).length ≤ 1000000 := by rw [List.length_map, sq.1]; omega
  have e : (List.range n).map (fun i => at2 T i k) = T.map fun r => r.getD k false := by
    apply List.ext_getElem
    · simp [sq.1]
    · intro i h1 h2
      have hi : i < T.length := by simpa using h2
      simp [at2, List.getD, List.getElem?_eq_getElem hi]
  have hc : compL (compF dYes (d2 ixD (dVar 2) (dVar 1)) [some (tabD T), some (.int (k : Int))]) (T.map rowD) = some ((T.map fun r => r.getD k false).map bD) := by
    rw [List.map_map]
    exact comp_ofAll (fun r : List Bool => bD (r.getD k false)) fun r hr => by simp! only [ix_row' (show k < r.length by rw [sq.2 r hr]; exact hk), bD]
  have fl := eo_flat (imms_map_bD (T.map fun r => r.getD k false))
  simp! only [g_column, seq_tab, eo_comp hl', hc, fl, hol_some]
  rw [e]
  rfl

theorem true_comp {r0 : List Bool} : ∀ (r : List Bool) (k : Nat), compL (two (compG (dTruth (dVar 2)) (dVar 1) [some (rowD r0)])) (enumFrom k (r.map bD)) = some ((trueAt k r).map nD)
  | [], _ => rfl
  | b :: r, k => by
    have ih := true_comp (r0 := r0) r (k + 1)
    rw [List.map_cons]
    show compL _ (.tup [.int (k : Nat), bD b] :: enumFrom (k + 1) (r.map bD)) = _
    unfold compL
    rw [ih]
    have e : two (compG (dTruth (dVar 2)) (dVar 1) [some (rowD r0)]) (.tup [.int (k : Nat), bD b]) = some (if b = true then some (nD k) else none) := by
      show compG _ _ _ _ _ = _
      unfold compG
      have e1 : dTruth (dVar 2) ([some (rowD r0)] ++ [some (.int (k : Nat)), some (bD b)]) = some b := rfl
      rw [e1]
      cases b <;> rfl
    have t : trueAt k (b :: r) = if b = true then k :: trueAt (k + 1) r else trueAt (k + 1) r := rfl
    rw [e, t]
    cases b <;> rfl
theorem places_eq (r : List Bool) (hl : r.length ≤ 1000) : m_places_true [rowD r] = some (thD ((List.range r.length).filter fun i => r.getD i false)) := by
  refine run_of rfl ?_
  have e : trueAt 0 r = (List.range r.length).filter fun i => r.getD i false := by
    rw [true_eq, List.range_eq_range']
    rfl
  have h0 : enumS (rowD r) = some (enumFrom 0 (r.map bD)) := rfl
  have hl' : (enumFrom 0 (r.map bD)).length ≤ 1000000 := by rw [enum_len', List.length_map]; omega
  have fl := eo_flat (imms_n (trueAt 0 r))
  simp! only [g_places_true, h0, eo_comp hl', true_comp, fl, hol_some]
  rw [e]
  rfl
theorem beaten_eq {n : Nat} {T : List (List Bool)} (sq : Sq n T) (hn : n ≤ 1000) {k : Nat} (hk : k < n) : m_beaten_by [tabD T, .int (k : Int)] = some (thD ((List.range n).filter fun j => at2 T k j)) := by
  refine run_of rfl ?_
  have hk' : k < T.length := by rw [sq.1]; exact hk
  have p := places_eq (T.getD k []) (by rw [sq.len hk]; omega)
  rw [sq.len hk] at p
  simp! only [g_beaten_by, ix_tab' hk', p, hol_some]
  rfl

theorem beaters_eq {n : Nat} {T : List (List Bool)} (sq : Sq n T) (hn : n ≤ 1000) {k : Nat} (hk : k < n) : m_beaters_of [tabD T, .int (k : Int)] = some (thD ((List.range n).filter fun j => at2 T j k)) := by
  refine run_of rfl ?_
  have p := places_eq ((List.range n).map fun i => at2 T i k) (by rw [List.length_map, List.length_range]; omega)
  have e : ((List.range ((List.range n).map fun i => at2 T i k).length).filter fun i => ((List.range n).map fun i => at2 T i k).getD i false) = (List.range n).filter fun j => at2 T j k := by
    rw [List.length_map, List.length_range]
    apply List.filter_congr
    intro i hi
    rw [getD_map (by simpa using hi)]
    simp
  rw [e] at p
  simp! only [g_beaters_of, column_eq sq hn hk, p, hol_some]

theorem whole_eq (n : Int) : m__law_whole [.int n] = some (.bl true) := by
  refine run_of rfl ?_
  simp_all! only [g__law_whole, hol_some]

/-! sums of weights, scores -/
def wsum (ws : List Int) (l : List Nat) : Int := (l.map fun j => ws.getD j 0).sum
def scr (T : List (List Bool)) (ws : List Int) (n i : Nat) : Int := wsum ws ((List.range n).filter fun j => at2 T i j) - wsum ws ((List.range n).filter fun j => at2 T j i)
theorem weight_eq {ws : List Int} {th : List Nat} (hl : th.length ≤ 1000) (h : ∀ x ∈ th, x < ws.length) : m_weight_of [inD' ws, thD th] = some (.int (wsum ws th)) := by
  refine run_of rfl ?_
  simp! only [g_weight_of, seq_th]
  rw [cx_all (fun j => D.int (ws.getD j 0)) hl fun j hj => by simp! only [nD, ix_in (h j hj)]]
  have e : (th.map fun j => D.int (ws.getD j 0)) = (th.map fun j => ws.getD j 0).map D.int := by rw [List.map_map]; rfl
  simp! only [e, ea_sum, hol_some]
  rfl
theorem score_eq {m : Nat} {T : List (List Bool)} (sq : Sq m T) (hm : m ≤ 1000) {ws : List Int} (hw : ws.length = m) {i : Nat} (hi : i < m) : m_score [tabD T, inD' ws, .int (i : Int)] = some (.int (scr T ws m i)) := by
  refine run_of rfl ?_
  have fl : ∀ p : Nat → Bool, ((List.range m).filter p).length ≤ 1000 := fun p => Nat.le_trans (List.length_filter_le ..) (by simpa using hm)
  have fm : ∀ p : Nat → Bool, ∀ x ∈ (List.range m).filter p, x < ws.length := fun p x hx => by
    rw [hw]
    exact List.mem_range.mp (List.mem_filter.mp hx).1
  simp! only [g_score, beaten_eq sq hm hi, beaters_eq sq hm hi, weight_eq (fl _) (fm _), hol_some]
  rfl
theorem wsum_succ {ws : List Int} {p : Nat → Bool} {n : Nat} : wsum ws ((List.range (n + 1)).filter p) = wsum ws ((List.range n).filter p) + if p n = true then ws.getD n 0 else 0 := by
  rw [fil_succ]
  unfold wsum
  rw [List.map_append, List.sum_append]
  by_cases h : p n = true
  · rw [if_pos h, if_pos h]; simp
  · rw [if_neg h, if_neg h]; simp

theorem picked_eq {r : List Bool} {th : List Nat} (hl : th.length ≤ 1000) (h : ∀ x ∈ th, x < r.length) : m_picked [rowD r, thD th] = some (rowD (th.map fun j => r.getD j false)) := by
  refine run_of rfl ?_
  have hl' : (th.map nD).length ≤ 1000000 := by rw [List.length_map]; omega
  have hc : compL (compF dYes (d2 ixD (dVar 0) (dVar 2)) [some (rowD r), some (thD th)]) (th.map nD) = some ((th.map fun j => r.getD j false).map bD) := by
    rw [List.map_map]
    exact comp_ofAll (fun j : Nat => bD (r.getD j false)) fun j hj => by simp! only [nD, ix_row' (h j hj), bD]
  have fl := eo_flat (imms_map_bD (th.map fun j => r.getD j false))
  simp! only [g_picked, seq_th, eo_comp hl', hc, fl, hol_some]
  rfl
theorem part_eq {n : Nat} {T : List (List Bool)} (sq : Sq n T) {th : List Nat} (hl : th.length ≤ 1000) (h : ∀ x ∈ th, x < n) : m_part [tabD T, thD th] = some (tabD (gridT th (at2 T))) := by
  refine run_of rfl ?_
  have hl' : (th.map nD).length ≤ 1000000 := by rw [List.length_map]; omega
  have hc : compL (compF dYes (dCall m_picked [d2 ixD (dVar 0) (dVar 2), dVar 1]) [some (tabD T), some (thD th)]) (th.map nD) = some ((gridT th (at2 T)).map rowD) := by
    unfold gridT
    rw [List.map_map]
    exact comp_ofAll (fun i : Nat => rowD (th.map fun j => at2 T i j)) fun i hi => by
      have p := picked_eq (r := T.getD i []) (th := th) hl (fun x hx => by rw [sq.len (h i hi)]; exact h x hx)
      simp! only [nD, ix_tab' (show i < T.length by rw [sq.1]; exact h i hi), p]
      rfl
  simp! only [g_part, seq_th, eo_comp hl', hc, hol_some]
  rfl

/-! sums over pairings -/
def sg (k : Nat) : Int := if k % 2 = 0 then 1 else -1
def sgn (T : List (List Bool)) (i j : Nat) : Int := if at2 T i j = true then 1 else -1
def pfS (T : List (List Bool)) : Nat → List Nat → Int
  | 0, _ => 1
  | _ + 1, [] => 1
  | n + 1, x :: r => ((List.range r.length).map fun k => sg k * sgn T x (r.getD k 0) * pfS T n (r.eraseIdx k)).sum
theorem sg_one (k : Nat) : sg k = 1 ∨ sg k = -1 := by unfold sg; split; exact .inl rfl; exact .inr rfl
theorem sgn_one (T : List (List Bool)) (i j : Nat) : sgn T i j = 1 ∨ sgn T i j = -1 := by unfold sgn; split; exact .inl rfl; exact .inr rfl
theorem sg_add {a b : Nat} : sg (a + b) = sg a * sg b := by
  unfold sg
  rcases Nat.mod_two_eq_zero_or_one a with h | h <;> rcases Nat.mod_two_eq_zero_or_one b with k | k
  · rw [if_pos (by omega), if_pos h, if_pos k]; rfl
  · rw [if_neg (by omega), if_pos h, if_neg (by omega)]; rfl
  · rw [if_neg (by omega), if_neg (by omega), if_pos k]; rfl
  · rw [if_pos (by omega), if_neg (by omega), if_neg (by omega)]; rfl
theorem sum_bound {f : Nat → Int} {B : Int} : ∀ {c : Nat}, (∀ k < c, -B ≤ f k ∧ f k ≤ B) → -((c : Int) * B) ≤ ((List.range c).map f).sum ∧ ((List.range c).map f).sum ≤ (c : Int) * B
  | 0, _ => by simp
  | c + 1, h => by
    have ih := sum_bound (c := c) fun k hk => h k (by omega)
    have hc := h c (by omega)
    rw [List.range_succ, List.map_append, List.sum_append]
    have e : (((c + 1 : Nat)) : Int) * B = (c : Int) * B + B := by rw [Int.natCast_add, Int.add_mul]; simp
    rw [e]
    simp only [List.map_cons, List.map_nil, List.sum_cons, List.sum_nil]
    omega
theorem pf_bound {T : List (List Bool)} : ∀ {n : Nat} {L : List Nat}, L.length ≤ 8 → -(8 ^ n : Int) ≤ pfS T n L ∧ pfS T n L ≤ 8 ^ n
  | 0, L, _ => by show -(8 ^ 0 : Int) ≤ 1 ∧ (1 : Int) ≤ 8 ^ 0; omega
  | n + 1, [], _ => by
    show -(8 ^ (n + 1) : Int) ≤ 1 ∧ (1 : Int) ≤ 8 ^ (n + 1)
    have : (0 : Int) < 8 ^ (n + 1) := Int.pow_pos (by omega)
    omega
  | n + 1, x :: r, hl => by
    have hr : r.length ≤ 7 := by simp at hl; omega
    have hp : (0 : Int) < 8 ^ n := Int.pow_pos (by omega)
    have := sum_bound (c := r.length) (B := 8 ^ n) (f := fun k => sg k * sgn T x (r.getD k 0) * pfS T n (r.eraseIdx k)) fun k hk => by
      have b := pf_bound (T := T) (n := n) (L := r.eraseIdx k) (by have := List.length_eraseIdx_le r k; omega)
      show -(8 ^ n : Int) ≤ sg k * sgn T x (r.getD k 0) * pfS T n (r.eraseIdx k) ∧ sg k * sgn T x (r.getD k 0) * pfS T n (r.eraseIdx k) ≤ 8 ^ n
      rcases sg_one k with h | h <;> rcases sgn_one T x (r.getD k 0) with h' | h' <;> rw [h, h'] <;> omega
    show -(8 ^ (n + 1) : Int) ≤ ((List.range r.length).map fun k => sg k * sgn T x (r.getD k 0) * pfS T n (r.eraseIdx k)).sum ∧ ((List.range r.length).map fun k => sg k * sgn T x (r.getD k 0) * pfS T n (r.eraseIdx k)).sum ≤ 8 ^ (n + 1)
    have e : (8 ^ (n + 1) : Int) = 8 * 8 ^ n := by rw [Int.pow_succ, Int.mul_comm]
    have m1 : (r.length : Int) * 8 ^ n ≤ 8 * 8 ^ n := Int.mul_le_mul_of_nonneg_right (by omega) (by omega)
    rw [e]
    omega
theorem sum_odd {f : Nat → Int} : ∀ {c : Nat}, (∀ k < c, f k % 2 = 1) → ((List.range c).map f).sum % 2 = (c : Int) % 2
  | 0, _ => by simp
  | c + 1, h => by
    have ih := sum_odd (c := c) fun k hk => h k (by omega)
    have hc := h c (by omega)
    rw [List.range_succ, List.map_append, List.sum_append]
    simp only [List.map_cons, List.map_nil, List.sum_cons, List.sum_nil]
    omega
theorem pf_odd {T : List (List Bool)} : ∀ {n c : Nat} {L : List Nat}, L.length = 2 * c → pfS T n L % 2 = 1
  | 0, _, L, _ => rfl
  | n + 1, _, [], _ => rfl
  | n + 1, c, x :: r, hl => by
    have hr : r.length + 1 = 2 * c := hl
    show ((List.range r.length).map fun k => sg k * sgn T x (r.getD k 0) * pfS T n (r.eraseIdx k)).sum % 2 = 1
    rw [sum_odd fun k hk => ?_]
    · omega
    · have b := pf_odd (T := T) (n := n) (c := c - 1) (L := r.eraseIdx k) (by rw [List.length_eraseIdx, if_pos hk]; omega)
      rcases sg_one k with h | h <;> rcases sgn_one T x (r.getD k 0) with h' | h' <;> rw [h, h'] <;> omega
/-! the program's -/
theorem mulB_of {i j : Int} (h1 : -(2 ^ 100) ≤ i ∧ i ≤ 2 ^ 100) (h2 : -(2 ^ 100) ≤ j ∧ j ≤ 2 ^ 100) : mulB (.int i) (.int j) = some (.int (i * j)) := by
  have hb : (2 ^ 100 : Nat) < bigL := by decide
  have h : CMulB i j := ⟨Nat.lt_of_le_of_lt (show i.natAbs ≤ 2 ^ 100 by omega) hb, Nat.lt_of_le_of_lt (show j.natAbs ≤ 2 ^ 100 by omega) hb⟩
  show (if CMulB i j then _ else _) = _
  rw [if_pos h]
theorem tsign_eq (k : Nat) : m_turned_sign [.int (k : Int)] = some (.int (sg k)) := by
  refine run_of rfl ?_
  have d : modI (.int (k : Int)) (.int 2) = some (.int ((k : Int) % 2)) := ea_mod (by omega)
  unfold sg
  rcases Nat.mod_two_eq_zero_or_one k with h | h
  · have z : decide ((k : Int) % 2 = 0) = true := decide_eq_true (by omega)
    rw [if_pos h]
    simp_all! only [g_turned_sign, d, z, hol_some]
  · have z : decide ((k : Int) % 2 = 0) = false := decide_eq_false (by omega)
    rw [if_neg (by omega)]
    simp_all! only [g_turned_sign, d, z, hol_some]
theorem sign_eq {th : List Nat} {T : List (List Bool)} {x k : Nat} {r : List Nat} (e : th = x :: r) (hk : k < r.length) : m_sign [tabD (gridT th (at2 T)), .int ((k : Int) + 1)] = some (.int (sgn T x (r.getD k 0))) := by
  refine run_of rfl ?_
  have sq := sq_grid (th := th) (f := at2 T)
  have hl : th.length = r.length + 1 := by rw [e]; rfl
  have ixt : ixD (tabD (gridT th (at2 T))) (.int 0) = some (rowD ((gridT th (at2 T)).getD 0 [])) := ix_tab' (i := 0) (by rw [sq.1]; omega)
  have ixx : ixD (rowD ((gridT th (at2 T)).getD 0 [])) (.int ((k : Int) + 1)) = some (.bl (at2 (gridT th (at2 T)) 0 (k + 1))) := ix_row' (j := k + 1) (by rw [sq.len (by omega)]; omega)
  have ev : at2 (gridT th (at2 T)) 0 (k + 1) = at2 T x (r.getD k 0) := by
    rw [e]
    show ((((x :: r).map fun i => (x :: r).map fun j => at2 T i j).getD 0 []).getD (k + 1) false) = _
    show (((r.map fun j => at2 T x j)).getD k false) = _
    simp [List.getD, List.getElem?_eq_getElem hk]
  rw [ev] at ixx
  unfold sgn
  cases hv : at2 T x (r.getD k 0) with
  | true =>
    rw [hv] at ixx
    simp_all! only [g_sign, ixt, ixx, hol_some]
    rfl
  | false =>
    rw [hv] at ixx
    simp_all! only [g_sign, ixt, ixx, hol_some]
    rfl
theorem fil_erase : ∀ {r : List Nat} {k : Nat}, k < r.length → ((List.range r.length).filter fun i => decide (i ≠ k)).map (fun i => r.getD i 0) = r.eraseIdx k
  | [], _, h => by simp at h
  | y :: r, k, h => by
    show ((List.range (r.length + 1)).filter fun i => decide (i ≠ k)).map (fun i => (y :: r).getD i 0) = _
    rw [List.range_succ_eq_map, List.filter_cons, List.filter_map]
    cases k with
    | zero =>
      rw [if_neg (by simp), List.map_map, List.filter_eq_self.mpr (fun a _ => by simp)]
      show (List.range r.length).map (fun i => r.getD i 0) = r
      apply List.ext_getElem
      · simp
      · intro i h1 h2
        simp [List.getD, List.getElem?_eq_getElem h2]
    | succ k =>
      rw [if_pos (by simp), List.map_cons, List.map_map]
      show y :: _ = y :: r.eraseIdx k
      rw [← fil_erase (r := r) (k := k) (by simpa using h)]
      congr 1
      show ((List.range r.length).filter _).map (fun i => r.getD i 0) = _
      congr 1
      apply List.filter_congr
      intro i _
      simp
theorem at_gridL {th : List Nat} {f : Nat → Nat → Bool} {i j : Nat} (hi : i < th.length) (hj : j < th.length) : at2 (gridT th f) i j = f (th.getD i 0) (th.getD j 0) := by
  unfold at2 gridT
  simp [List.getD, List.getElem?_eq_getElem hi, List.getElem?_eq_getElem hj]
theorem grid_grid {th : List Nat} {T : List (List Bool)} {is : List Nat} (h : ∀ i ∈ is, i < th.length) : gridT is (at2 (gridT th (at2 T))) = gridT (is.map fun i => th.getD i 0) (at2 T) := by
  show is.map (fun i => is.map fun j => at2 (gridT th (at2 T)) i j) = (is.map fun i => th.getD i 0).map fun i => (is.map fun i => th.getD i 0).map fun j => at2 T i j
  rw [List.map_map]
  apply List.map_congr_left
  intro i hi
  show is.map (fun j => at2 (gridT th (at2 T)) i j) = (is.map fun i => th.getD i 0).map fun j => at2 T (th.getD i 0) j
  rw [List.map_map]
  apply List.map_congr_left
  intro j hj
  exact at_gridL (h i hi) (h j hj)
theorem without_at {th : List Nat} {T : List (List Bool)} (hl : th.length ≤ 1000) {no : List Nat} : m_without [tabD (gridT th (at2 T)), thD no] = some (tabD (gridT (((List.range th.length).filter fun i => !no.contains i).map fun i => th.getD i 0) (at2 T))) := by
  refine run_of rfl ?_
  have sq := sq_grid (th := th) (f := at2 T)
  have cx : compX (some (rngL 0 th.length)) (compF (dTest (d2 ninD (dVar 2) (dVar 1))) (dVar 2) [some (tabD (gridT th (at2 T))), some (thD no)]) = some (((List.range th.length).filter fun i => !no.contains i).map nD) := by
    rw [rng_nat]
    exact cx_of (fun i => !no.contains i) nD (by simp; omega) (fun i hi => by simp! only [nD, nin_ths]) fun i hi _ => by simp! only []
  have hm : ∀ i ∈ (List.range th.length).filter fun i => !no.contains i, i < th.length := fun i hi => List.mem_range.mp (List.mem_filter.mp hi).1
  have p := part_eq sq (th := (List.range th.length).filter fun i => !no.contains i) (by have := List.length_filter_le (fun i => !no.contains i) (List.range th.length); rw [List.length_range] at this; omega) hm
  rw [grid_grid hm] at p
  simp! only [g_without, len_tab, sq.1, rng1_nat (show th.length ≤ 1000000 by omega), cx, th_lst, p, hol_some]
theorem without_eq {x k : Nat} {r : List Nat} {T : List (List Bool)} (hl : r.length ≤ 900) (hk : k < r.length) : m_without [tabD (gridT (x :: r) (at2 T)), .lst [.int 0, .int ((k : Int) + 1)]] = some (tabD (gridT (r.eraseIdx k) (at2 T))) := by
  have w := without_at (th := x :: r) (T := T) (by simp; omega) (no := [0, k + 1])
  have e : ((List.range (x :: r).length).filter fun i => !([0, k + 1] : List Nat).contains i).map (fun i => (x :: r).getD i 0) = r.eraseIdx k := by
    show ((List.range (r.length + 1)).filter fun i => !([0, k + 1] : List Nat).contains i).map (fun i => (x :: r).getD i 0) = _
    rw [List.range_succ_eq_map, List.filter_cons, if_neg (by simp), List.filter_map, List.map_map, ← fil_erase hk]
    have hf : (List.range r.length).filter ((fun i => !([0, k + 1] : List Nat).contains i) ∘ Nat.succ) = (List.range r.length).filter fun i => decide (i ≠ k) := List.filter_congr fun i _ => by simp
    rw [hf]
    rfl
  rw [e] at w
  exact w
theorem psum_eq {T : List (List Bool)} : ∀ {n c : Nat} {th : List Nat}, n ≤ 12 → th.length ≤ 8 → th.length = 2 * c → c < n → m_pairing_sumR n [tabD (gridT th (at2 T))] = some (.int (pfS T n th))
  | 0, _, _, _, _, _, h => by omega
  | n + 1, c, [], _, _, _, _ => by
    refine run_of rfl ?_
    have l0 : lenF [tabD (gridT [] (at2 T))] = some (.int 0) := rfl
    simp_all! only [g_pairing_sum, l0, hol_some]
    rfl
  | n + 1, c, x :: r, hn, h8, hc, hcn => by
    refine run_of rfl ?_
    have hr : r.length + 1 = 2 * c := hc
    have h8 : r.length + 1 ≤ 8 := h8
    have l0 : lenF [tabD (gridT (x :: r) (at2 T))] = some (.int ((r.length : Int) + 1)) := by
      rw [len_tab, (sq_grid (th := x :: r) (f := at2 T)).1]
      rfl
    have d0 : decide ((r.length : Int) + 1 = 0) = false := decide_eq_false (by omega)
    have rn : rng2 (some (.int 1)) (some (.int ((r.length : Int) + 1))) = some (rngL 1 r.length) := by
      rw [eo_rng2 (by omega)]
      congr 2
      omega
    obtain ⟨f, hf⟩ : ∃ f : Nat → Int, f = fun k => sg k * sgn T x (r.getD k 0) * pfS T n (r.eraseIdx k) := ⟨_, rfl⟩
    simp_all! only [g_pairing_sum, l0, d0, rn]
    refine hol_bindO (I := fun s => ∃ o2, s = [some (.sh (tabD (gridT (x :: r) (at2 T)))), some (.sh (.int ((List.range r.length).map f).sum)), o2]) ?_ ?_
    · refine for_rng (fun k s => ∃ o2, s = [some (.sh (tabD (gridT (x :: r) (at2 T)))), some (.sh (.int ((List.range k).map f).sum)), o2]) ⟨_, rfl⟩ ?_ fun s z => ⟨s, rfl, z⟩
      rintro k hk s ⟨o2, rfl⟩
      have e1 : (1 : Int) + (k : Int) = (k : Int) + 1 := by omega
      have e2 : (k : Int) + 1 - 1 = (k : Int) := by omega
      have hel : (r.eraseIdx k).length = 2 * (c - 1) := by rw [List.length_eraseIdx, if_pos hk]; omega
      have ps := psum_eq (T := T) (n := n) (c := c - 1) (th := r.eraseIdx k) (by omega) (by omega) hel (by omega)
      have b := pf_bound (T := T) (n := n) (L := r.eraseIdx k) (by omega)
      have h12 : (8 ^ n : Int) ≤ 8 ^ 12 := by
        have h := Nat.pow_le_pow_right (n := 8) (by omega) (show n ≤ 12 by omega)
        have e : ((8 ^ n : Nat) : Int) = 8 ^ n := Int.natCast_pow 8 n
        omega
      have sc : -1 ≤ sg k * sgn T x (r.getD k 0) ∧ sg k * sgn T x (r.getD k 0) ≤ 1 := by
        rcases sg_one k with h | h <;> rcases sgn_one T x (r.getD k 0) with h' | h' <;> rw [h, h'] <;> omega
      have s1 : -1 ≤ sg k ∧ sg k ≤ 1 := by rcases sg_one k with h | h <;> rw [h] <;> omega
      have s2 : -1 ≤ sgn T x (r.getD k 0) ∧ sgn T x (r.getD k 0) ≤ 1 := by rcases sgn_one T x (r.getD k 0) with h | h <;> rw [h] <;> omega
      have m1 := mulB_of (i := sg k) (j := sgn T x (r.getD k 0)) (by omega) (by omega)
      have m2 := mulB_of (i := sg k * sgn T x (r.getD k 0)) (j := pfS T n (r.eraseIdx k)) (by omega) (by omega)
      have es : ((List.range (k + 1)).map f).sum = ((List.range k).map f).sum + sg k * sgn T x (r.getD k 0) * pfS T n (r.eraseIdx k) := by
        rw [List.range_succ, List.map_append, List.sum_append, hf]
        simp
      rw [es]
      simp_all! only [e1, e2, tsign_eq, sign_eq rfl hk, without_eq (x := x) (T := T) (show r.length ≤ 900 by omega) hk, ps, m1, m2, hol_some]
      exact ⟨_, rfl⟩
    · rintro s ⟨o2, rfl⟩
      simp! only [hol_some, hf]
      rfl

theorem sum_mul {α : Type} {f : α → Int} {c : Int} : ∀ {l : List α}, (l.map fun x => c * f x).sum = c * (l.map f).sum
  | [] => by simp
  | x :: l => by rw [List.map_cons, List.sum_cons, sum_mul, List.map_cons, List.sum_cons, Int.mul_add]

/-! the sum over pairings turns its sign where two things are exchanged -/
def Ex (s : Nat → Nat → Int) (x : Nat) : (List Nat → Int) → List Nat → Int
  | _, [] => 0
  | F, y :: r => s x y * F r - Ex s x (fun l => F (y :: l)) r
theorem ex_sub {s : Nat → Nat → Int} {x : Nat} {c : Int} : ∀ {l : List Nat} {F G : List Nat → Int}, Ex s x (fun l => c * F l - G l) l = c * Ex s x F l - Ex s x G l
  | [], F, G => by show (0 : Int) = c * 0 - 0; omega
  | y :: r, F, G => by
    show s x y * (c * F r - G r) - Ex s x (fun l => c * F (y :: l) - G (y :: l)) r = c * (s x y * F r - Ex s x (fun l => F (y :: l)) r) - (s x y * G r - Ex s x (fun l => G (y :: l)) r)
    rw [ex_sub (F := fun l => F (y :: l)) (G := fun l => G (y :: l)), Int.mul_sub, Int.mul_sub, Int.mul_left_comm]
    omega
theorem ex_neg {s : Nat → Nat → Int} {x : Nat} : ∀ {l : List Nat} {F G : List Nat → Int}, (∀ l, F l = -G l) → Ex s x F l = -Ex s x G l
  | [], F, G, _ => by show (0 : Int) = -0; omega
  | y :: r, F, G, h => by
    show s x y * F r - Ex s x (fun l => F (y :: l)) r = -(s x y * G r - Ex s x (fun l => G (y :: l)) r)
    rw [ex_neg (F := fun l => F (y :: l)) (G := fun l => G (y :: l)) fun l => h (y :: l), h r, Int.mul_neg]
    omega
theorem ex_zero {s : Nat → Nat → Int} {x : Nat} {F : List Nat → Int} {l : List Nat} (h : ∀ l, F l = 0) : Ex s x F l = 0 := by
  have := ex_neg (s := s) (x := x) (l := l) (F := F) (G := F) fun l => by rw [h l]; rfl
  omega
theorem ex_anti {s : Nat → Nat → Int} {a b : Nat} : ∀ {l : List Nat} {F : List Nat → Int}, Ex s a (Ex s b F) l = -Ex s b (Ex s a F) l
  | [], F => by show (0 : Int) = -0; omega
  | y :: r, F => by
    show s a y * Ex s b F r - Ex s a (fun l => s b y * F l - Ex s b (fun l => F (y :: l)) l) r = -(s b y * Ex s a F r - Ex s b (fun l => s a y * F l - Ex s a (fun l => F (y :: l)) l) r)
    rw [ex_sub, ex_sub, ex_anti (F := fun l => F (y :: l))]
    omega
def Pf (s : Nat → Nat → Int) : Nat → List Nat → Int
  | _, [] => 1
  | 0, _ :: _ => 0
  | n + 1, x :: r => Ex s x (Pf s n) r
def Alt (F : List Nat → Int) : Prop := ∀ A a b Q, F (A ++ a :: b :: Q) = -F (A ++ b :: a :: Q)
theorem ex_alt {s : Nat → Nat → Int} {x : Nat} : ∀ {A : List Nat} {F : List Nat → Int}, Alt F → ∀ a b Q, Ex s x F (A ++ a :: b :: Q) = -Ex s x F (A ++ b :: a :: Q)
  | [], F, h, a, b, Q => by
    show s x a * F (b :: Q) - (s x b * F (a :: Q) - Ex s x (fun l => F (a :: b :: l)) Q) = -(s x b * F (a :: Q) - (s x a * F (b :: Q) - Ex s x (fun l => F (b :: a :: l)) Q))
    rw [ex_neg (F := fun l => F (a :: b :: l)) (G := fun l => F (b :: a :: l)) fun l => h [] a b l]
    omega
  | y :: A, F, h, a, b, Q => by
    show s x y * F (A ++ a :: b :: Q) - Ex s x (fun l => F (y :: l)) (A ++ a :: b :: Q) = -(s x y * F (A ++ b :: a :: Q) - Ex s x (fun l => F (y :: l)) (A ++ b :: a :: Q))
    rw [ex_alt (A := A) (F := fun l => F (y :: l)) (fun B c d R => h (y :: B) c d R), h A a b Q, Int.mul_neg]
    omega
theorem pf_alt {s : Nat → Nat → Int} (sk : ∀ a b, s a b = -s b a) : ∀ n, Alt (Pf s n)
  | 0, A, a, b, Q => by
    have z : ∀ c d, Pf s 0 (A ++ c :: d :: Q) = 0 := fun c d => by cases A <;> rfl
    rw [z, z]
    rfl
  | n + 1, x :: A, a, b, Q => ex_alt (pf_alt sk n) a b Q
  | n + 1, [], a, b, Q => by
    show s a b * Pf s n Q - Ex s a (fun l => Pf s n (b :: l)) Q = -(s b a * Pf s n Q - Ex s b (fun l => Pf s n (a :: l)) Q)
    have : Ex s a (fun l => Pf s n (b :: l)) Q = -Ex s b (fun l => Pf s n (a :: l)) Q := by
      cases n with
      | zero =>
        rw [ex_zero (F := fun l => Pf s 0 (b :: l)) fun l => rfl, ex_zero (F := fun l => Pf s 0 (a :: l)) fun l => rfl]
        rfl
      | succ n => exact ex_anti (F := Pf s n)
    rw [this, sk a b, Int.neg_mul]
    omega
theorem alt_two {F : List Nat → Int} (h : Alt F) {i : Nat} : ∀ (n : Nat) {A B : List Nat}, A.length = n → F (i :: A ++ i :: B) = 0
  | 0, A, B, hA => by
    have : A = [] := List.length_eq_zero_iff.mp hA
    subst this
    have := h [] i i B
    show F (i :: i :: B) = 0
    have h2 : F (i :: i :: B) = -F (i :: i :: B) := this
    omega
  | n + 1, A, B, hA => by
    have hne : A ≠ [] := fun z => by rw [z] at hA; simp at hA
    obtain ⟨A', y, rfl⟩ : ∃ A' y, A = A' ++ [y] := ⟨A.dropLast, A.getLast hne, (List.dropLast_concat_getLast hne).symm⟩
    have e1 : i :: (A' ++ [y]) ++ i :: B = (i :: A') ++ y :: i :: B := by simp
    rw [e1, h (i :: A') y i B, alt_two h n (A := A') (B := y :: B) (by simpa using hA)]
    rfl
theorem ex_two {s : Nat → Nat → Int} (sk : ∀ a b, s a b = -s b a) {n i : Nat} {L : List Nat} (h : i ∈ L) : Ex s i (Pf s n) L = 0 := by
  obtain ⟨A, B, rfl⟩ := List.append_of_mem h
  exact alt_two (pf_alt sk (n + 1)) _ rfl
theorem sg_succ {k : Nat} : sg (k + 1) = -sg k := by rw [sg_add]; show sg k * (-1) = _; omega
theorem ex_sum {s : Nat → Nat → Int} {x : Nat} : ∀ {r : List Nat} {F : List Nat → Int}, Ex s x F r = ((List.range r.length).map fun k => sg k * s x (r.getD k 0) * F (r.eraseIdx k)).sum
  | [], F => rfl
  | y :: r, F => by
    show s x y * F r - Ex s x (fun l => F (y :: l)) r = ((List.range (r.length + 1)).map fun k => sg k * s x ((y :: r).getD k 0) * F ((y :: r).eraseIdx k)).sum
    rw [List.range_succ_eq_map, List.map_cons, List.sum_cons, List.map_map, ex_sum (r := r)]
    have e : ((List.range r.length).map ((fun k => sg k * s x ((y :: r).getD k 0) * F ((y :: r).eraseIdx k)) ∘ Nat.succ)).sum = -((List.range r.length).map fun k => sg k * s x (r.getD k 0) * F (y :: r.eraseIdx k)).sum := by
      have h1 : ((List.range r.length).map ((fun k => sg k * s x ((y :: r).getD k 0) * F ((y :: r).eraseIdx k)) ∘ Nat.succ)) = (List.range r.length).map fun k => -1 * (sg k * s x (r.getD k 0) * F (y :: r.eraseIdx k)) := by
        apply List.map_congr_left
        intro k _
        show sg (k + 1) * s x (r.getD k 0) * F (y :: r.eraseIdx k) = _
        rw [sg_succ, Int.neg_mul, Int.neg_mul]
        omega
      rw [h1, sum_mul]
      omega
    rw [e]
    show _ = 1 * s x y * F r + _
    rw [Int.one_mul]
    omega
/-- of a full table -/
def sk2 (T : List (List Bool)) (m i j : Nat) : Int := if i < m ∧ j < m then (if at2 T i j = true then 1 else 0) - (if at2 T j i = true then 1 else 0) else 0
theorem sk2_skew {T : List (List Bool)} {m : Nat} (a b : Nat) : sk2 T m a b = -sk2 T m b a := by
  unfold sk2
  by_cases h : a < m ∧ b < m
  · rw [if_pos h, if_pos (show b < m ∧ a < m from ⟨h.2, h.1⟩)]; omega
  · rw [if_neg h, if_neg (show ¬(b < m ∧ a < m) from fun z => h ⟨z.2, z.1⟩)]; rfl
theorem sk2_sgn {T : List (List Bool)} {m : Nat} (F : Full m T) {i j : Nat} (hi : i < m) (hj : j < m) (h : i ≠ j) : sgn T i j = sk2 T m i j := by
  unfold sgn sk2
  rw [if_pos (show i < m ∧ j < m from ⟨hi, hj⟩)]
  have := F.two i hi j hj h
  cases h1 : at2 T i j <;> cases h2 : at2 T j i <;> rw [h1, h2] at this <;> first | rfl | cases this
theorem pfS_Pf {T : List (List Bool)} {m : Nat} (F : Full m T) : ∀ {n c : Nat} {L : List Nat}, L.Nodup → (∀ x ∈ L, x < m) → L.length = 2 * c → c ≤ n → pfS T n L = Pf (sk2 T m) n L
  | 0, c, L, _, _, hl, hc => by
    have : L = [] := List.length_eq_zero_iff.mp (by omega)
    subst this
    rfl
  | n + 1, c, [], _, _, _, _ => rfl
  | n + 1, c, x :: r, nd, hlt, hl, hc => by
    have nd' := List.nodup_cons.mp nd
    have hr : r.length + 1 = 2 * c := hl
    show ((List.range r.length).map fun k => sg k * sgn T x (r.getD k 0) * pfS T n (r.eraseIdx k)).sum = Ex (sk2 T m) x (Pf (sk2 T m) n) r
    rw [ex_sum]
    refine sum_congr fun k hk => ?_
    have hk := List.mem_range.mp hk
    have hy : r.getD k 0 ∈ r := by
      rw [List.getD_eq_getElem?_getD, List.getElem?_eq_getElem hk]
      exact List.getElem_mem hk
    rw [sk2_sgn F (hlt x List.mem_cons_self) (hlt _ (List.mem_cons_of_mem _ hy)) fun z => nd'.1 (z ▸ hy), pfS_Pf F (n := n) (c := c - 1) (nd'.2.sublist (List.eraseIdx_sublist r k)) (fun z hz => hlt z (List.mem_cons_of_mem _ (List.mem_of_mem_eraseIdx hz))) (by rw [List.length_eraseIdx, if_pos hk]; omega) (by omega)]
def kerL (T : List (List Bool)) (m : Nat) : List Int := (List.range m).map fun k => sg k * pfS T 12 ((List.range m).eraseIdx k)
theorem ker_len {T : List (List Bool)} {m : Nat} : (kerL T m).length = m := by simp [kerL]
theorem ker_at {T : List (List Bool)} {m k : Nat} (hk : k < m) : (kerL T m).getD k 0 = sg k * pfS T 12 ((List.range m).eraseIdx k) := by
  unfold kerL
  simp [List.getD, List.getElem?_eq_getElem, hk]
theorem scr_sum {T : List (List Bool)} {ws : List Int} {m i : Nat} (hi : i < m) : ∀ {n : Nat}, n ≤ m → scr T ws n i = ((List.range n).map fun j => sk2 T m i j * ws.getD j 0).sum
  | 0, _ => rfl
  | n + 1, hn => by
    have ih := scr_sum (T := T) (ws := ws) hi (n := n) (by omega)
    unfold scr at ih ⊢
    rw [wsum_succ, wsum_succ, List.range_succ, List.map_append, List.sum_append, ← ih]
    have e : ((([n] : List Nat).map fun j => sk2 T m i j * ws.getD j 0)).sum = sk2 T m i n * ws.getD n 0 := by simp
    rw [e]
    unfold sk2
    rw [if_pos (show i < m ∧ n < m from ⟨hi, by omega⟩)]
    cases at2 T i n <;> cases at2 T n i <;> simp <;> omega

theorem wo1_eq {m k : Nat} {T : List (List Bool)} (sq : Sq m T) (hm : m ≤ 1000) (hk : k < m) : m_without [tabD T, .lst [.int (k : Int)]] = some (tabD (gridT ((List.range m).eraseIdx k) (at2 T))) := by
  have w := without_at (th := List.range m) (T := T) (by simpa using hm) (no := [k])
  rw [grid_of sq, List.length_range] at w
  have e : ((List.range m).filter fun i => !([k] : List Nat).contains i).map (fun i => (List.range m).getD i 0) = (List.range m).eraseIdx k := by
    have h := fil_erase (r := List.range m) (k := k) (by simpa using hk)
    rw [List.length_range] at h
    rw [← h]
    have hf : (List.range m).filter (fun i => !([k] : List Nat).contains i) = (List.range m).filter fun i => decide (i ≠ k) := List.filter_congr fun i _ => by simp
    rw [hf]
  rw [e] at w
  exact w
theorem ker_psum {m c k : Nat} {T : List (List Bool)} (hm : m = 2 * c + 1) (hc : c ≤ 3) (hk : k < m) : m_pairing_sum [tabD (gridT ((List.range m).eraseIdx k) (at2 T))] = some (.int (pfS T 12 ((List.range m).eraseIdx k))) := by
  have hel : ((List.range m).eraseIdx k).length = 2 * c := by rw [List.length_eraseIdx, List.length_range, if_pos hk]; omega
  exact psum_eq (by omega) (by omega) hel (by omega)
theorem kernel_eq {m c : Nat} {T : List (List Bool)} (sq : Sq m T) (hm : m = 2 * c + 1) (hc : c ≤ 3) : m_kernel [tabD T] = some (inD' (kerL T m)) := by
  refine run_of rfl ?_
  have cx : compX (some (rngL 0 m)) (compF dYes (d2 mulB (dCall m_turned_sign [dVar 1]) (dCall m_pairing_sum [dCall m_without [dVar 0, mkL (dArgs [dVar 1])]])) [some (tabD T)]) = some ((kerL T m).map .int) := by
    rw [rng_nat, cx_all (fun k => D.int (sg k * pfS T 12 ((List.range m).eraseIdx k))) (by simp; omega) fun k hk => ?_]
    · unfold kerL
      rw [List.map_map]
      rfl
    · have hk := List.mem_range.mp hk
      have hel : ((List.range m).eraseIdx k).length = 2 * c := by rw [List.length_eraseIdx, List.length_range, if_pos hk]; omega
      have b := pf_bound (T := T) (n := 12) (L := (List.range m).eraseIdx k) (by omega)
      have s1 : -1 ≤ sg k ∧ sg k ≤ 1 := by rcases sg_one k with h | h <;> rw [h] <;> omega
      have m1 := mulB_of (i := sg k) (j := pfS T 12 ((List.range m).eraseIdx k)) (by omega) (by omega)
      simp! only [nD, tsign_eq, wo1_eq sq (show m ≤ 1000 by omega) hk, ker_psum hm hc hk, m1]
  simp! only [g_kernel, len_tab, sq.1, rng1_nat (show m ≤ 1000000 by omega), cx, flat_in, lst_in, hol_some]

/-! Ville: columns of ints have a sum that is nowhere above nought, or a weighing of the rows is above nought at each -/
abbrev Vc := Nat → Int
inductive Cn (A : List Vc) : Vc → Prop where
  | one {a : Vc} : a ∈ A → Cn A a
  | add {u v : Vc} : Cn A u → Cn A v → Cn A (fun i => u i + v i)
def dotV : Nat → Vc → Vc → Int
  | 0, _, _ => 0
  | n + 1, y, a => dotV n y a + y n * a n
theorem dot_add {y u v : Vc} : ∀ {n : Nat}, dotV n y (fun i => u i + v i) = dotV n y u + dotV n y v
  | 0 => rfl
  | n + 1 => by
    unfold dotV
    rw [dot_add]
    grind
theorem dot_mul {y u : Vc} {c : Int} : ∀ {n : Nat}, dotV n y (fun i => c * u i) = c * dotV n y u
  | 0 => by simp [dotV]
  | n + 1 => by
    unfold dotV
    rw [dot_mul]
    grind
theorem dot_mulL {y u : Vc} {c : Int} : ∀ {n : Nat}, dotV n (fun i => c * y i) u = c * dotV n y u
  | 0 => by simp [dotV]
  | n + 1 => by
    unfold dotV
    rw [dot_mulL]
    grind
theorem dot_congr {y y' u u' : Vc} : ∀ {n : Nat}, (∀ i, i < n → y i = y' i) → (∀ i, i < n → u i = u' i) → dotV n y u = dotV n y' u'
  | 0, _, _ => rfl
  | n + 1, h, h' => by
    unfold dotV
    rw [dot_congr (fun i hi => h i (by omega)) fun i hi => h' i (by omega), h n (by omega), h' n (by omega)]
theorem cn_mul {A : List Vc} {u : Vc} (h : Cn A u) : ∀ k : Nat, Cn A (fun i => ((k : Int) + 1) * u i)
  | 0 => by
    have e : (fun i => (((0 : Nat) : Int) + 1) * u i) = u := funext fun i => by simp
    rw [e]
    exact h
  | k + 1 => by
    have e : (fun i => (((k + 1 : Nat) : Int) + 1) * u i) = fun i => ((k : Int) + 1) * u i + u i := funext fun i => by grind
    rw [e]
    exact .add (cn_mul h k) h
theorem cn_pos {A : List Vc} {u : Vc} (h : Cn A u) {c : Int} (hc : 0 < c) : Cn A (fun i => c * u i) := by
  obtain ⟨k, rfl⟩ : ∃ k : Nat, c = (k : Int) + 1 := ⟨(c - 1).toNat, by omega⟩
  exact cn_mul h k
/-- the columns that are not above nought at m, and the two of a kind put together -/
def stepV (m : Nat) (A : List Vc) : List Vc := A.filter (fun a => decide (a m ≤ 0)) ++ (A.filter fun a => decide (0 < a m)).flatMap fun p => (A.filter fun a => decide (a m < 0)).map fun q => fun i => -(q m) * p i + p m * q i
theorem cn_step {m : Nat} {A : List Vc} {v : Vc} (h : Cn (stepV m A) v) : Cn A v ∧ v m ≤ 0 := by
  induction h with
  | one ha =>
    rcases List.mem_append.mp ha with h | h
    · obtain ⟨h1, h2⟩ := List.mem_filter.mp h
      exact ⟨.one h1, of_decide_eq_true h2⟩
    · obtain ⟨p, hp, h⟩ := List.mem_flatMap.mp h
      obtain ⟨q, hq, rfl⟩ := List.mem_map.mp h
      obtain ⟨p1, p2⟩ := List.mem_filter.mp hp
      obtain ⟨q1, q2⟩ := List.mem_filter.mp hq
      have p2 := of_decide_eq_true p2
      have q2 := of_decide_eq_true q2
      refine ⟨.add (cn_pos (.one p1) (by omega)) (cn_pos (.one q1) p2), ?_⟩
      grind
  | @add u v _ _ h1 h2 => exact ⟨.add h1.1 h2.1, by have := h1.2; have := h2.2; show u m + v m ≤ 0; omega⟩
/-- the greatest quotient n / d, d above nought, of a list that is not empty -/
theorem best_quot : ∀ (l : List (Int × Int)), l ≠ [] → (∀ x ∈ l, 0 < x.2) → ∃ b ∈ l, ∀ x ∈ l, x.1 * b.2 ≤ b.1 * x.2
  | [], h, _ => absurd rfl h
  | [x], _, _ => ⟨x, List.mem_cons_self, fun y hy => by rw [List.mem_singleton.mp hy]; omega⟩
  | x :: y :: r, _, hp => by
    obtain ⟨b, hb, h⟩ := best_quot (y :: r) (by simp) fun z hz => hp z (List.mem_cons_of_mem _ hz)
    have hb2 := hp b (List.mem_cons_of_mem _ hb)
    have hx2 := hp x List.mem_cons_self
    by_cases c : x.1 * b.2 ≤ b.1 * x.2
    · refine ⟨b, List.mem_cons_of_mem _ hb, fun z hz => ?_⟩
      rcases List.mem_cons.mp hz with rfl | hz
      · exact c
      · exact h z hz
    · refine ⟨x, List.mem_cons_self, fun z hz => ?_⟩
      rcases List.mem_cons.mp hz with rfl | hz
      · omega
      · have h1 := h z hz
        have hz2 := hp z (List.mem_cons_of_mem _ hz)
        have h2 : z.1 * b.2 * x.2 ≤ b.1 * z.2 * x.2 := Int.mul_le_mul_of_nonneg_right h1 (by omega)
        have h3 : b.1 * x.2 * z.2 ≤ x.1 * b.2 * z.2 := Int.mul_le_mul_of_nonneg_right (by omega) (by omega)
        have h4 : z.1 * x.2 * b.2 ≤ x.1 * z.2 * b.2 := by grind
        exact Int.le_of_mul_le_mul_right h4 hb2
theorem max_neg : ∀ (m : Nat) (A : List Vc), ∃ K : Int, 0 < K ∧ ∀ a ∈ A, -(a m) < K
  | _, [] => ⟨1, by decide, fun _ h => nomatch h⟩
  | m, a :: r => by
    obtain ⟨K, h1, h2⟩ := max_neg m r
    refine ⟨K + (if 0 < -(a m) then -(a m) else 0), by split <;> omega, fun b hb => ?_⟩
    rcases List.mem_cons.mp hb with rfl | hb
    · split <;> omega
    · have := h2 b hb
      split <;> omega
theorem ville : ∀ (m : Nat) (A : List Vc), (∃ v, Cn A v ∧ ∀ i, i < m → v i ≤ 0) ∨ ∃ y : Vc, (∀ i, i < m → 0 ≤ y i) ∧ ∀ a ∈ A, 0 < dotV m y a
  | 0, [] => .inr ⟨fun _ => 0, fun _ h => (by omega), fun _ h => nomatch h⟩
  | 0, a :: r => .inl ⟨a, .one List.mem_cons_self, fun _ h => (by omega)⟩
  | m + 1, A => by
    rcases ville m (stepV m A) with ⟨v, hv, h⟩ | ⟨y, y0, hy⟩
    · obtain ⟨h1, h2⟩ := cn_step hv
      refine .inl ⟨v, h1, fun i hi => ?_⟩
      by_cases e : i = m
      · subst e; exact h2
      · exact h i (by omega)
    · have hn : ∀ a ∈ A, a m ≤ 0 → 0 < dotV m y a := fun a ha h => hy a (List.mem_append.mpr (.inl (List.mem_filter.mpr ⟨ha, decide_eq_true h⟩)))
      have hpq : ∀ p ∈ A, ∀ q ∈ A, 0 < p m → q m < 0 → 0 < -(q m) * dotV m y p + p m * dotV m y q := fun p hp q hq h1 h2 => by
        have := hy (fun i => -(q m) * p i + p m * q i) (List.mem_append.mpr (.inr (List.mem_flatMap.mpr ⟨p, List.mem_filter.mpr ⟨hp, decide_eq_true h1⟩, List.mem_map.mpr ⟨q, List.mem_filter.mpr ⟨hq, decide_eq_true h2⟩, rfl⟩⟩)))
        rwa [dot_add (u := fun i => -(q m) * p i) (v := fun i => p m * q i), dot_mul, dot_mul] at this
      -- what z must be above
      by_cases hP : ∃ p ∈ A, 0 < p m ∧ dotV m y p ≤ 0
      · obtain ⟨p0, hp0, hp1, hp2⟩ := hP
        obtain ⟨b, hb, hbest⟩ := best_quot ((A.filter fun a => decide (0 < a m)).map fun a => (-(dotV m y a), a m)) (by
          intro e
          have : (-(dotV m y p0), p0 m) ∈ (A.filter fun a => decide (0 < a m)).map fun a => (-(dotV m y a), a m) := List.mem_map.mpr ⟨p0, List.mem_filter.mpr ⟨hp0, decide_eq_true hp1⟩, rfl⟩
          rw [e] at this
          cases this) (fun x hx => by
          obtain ⟨a, ha, rfl⟩ := List.mem_map.mp hx
          exact of_decide_eq_true (List.mem_filter.mp ha).2)
        obtain ⟨pb, hpb, rfl⟩ := List.mem_map.mp hb
        obtain ⟨hb1, hb2⟩ := List.mem_filter.mp hpb
        have hb2 := of_decide_eq_true hb2
        have hq : ∀ p ∈ A, 0 < p m → -(dotV m y p) * pb m ≤ -(dotV m y pb) * p m := fun p hp h => hbest (-(dotV m y p), p m) (List.mem_map.mpr ⟨p, List.mem_filter.mpr ⟨hp, decide_eq_true h⟩, rfl⟩)
        have ha0 : 0 ≤ -(dotV m y pb) := by
          have h1 := hq p0 hp0 hp1
          have h2 : 0 ≤ -(dotV m y p0) * pb m := Int.mul_nonneg (by omega) (by omega)
          by_cases z : 0 ≤ -(dotV m y pb)
          · exact z
          · have h3 := Int.mul_neg_of_neg_of_pos (show -(dotV m y pb) < 0 by omega) hp1
            omega
        obtain ⟨K, k0, hK⟩ := max_neg m A
        obtain ⟨al, hal⟩ : ∃ al, al = -(dotV m y pb) := ⟨_, rfl⟩
        obtain ⟨rb, hrb⟩ : ∃ rb, rb = pb m := ⟨_, rfl⟩
        rw [← hal] at ha0 hq
        rw [← hrb] at hb2 hq
        refine .inr ⟨fun i => if i = m then K * al + 1 else K * rb * y i, fun i hi => ?_, fun a ha => ?_⟩
        · show 0 ≤ if i = m then K * al + 1 else K * rb * y i
          have h1 := Int.mul_nonneg (show 0 ≤ K by omega) ha0
          split
          · omega
          · exact Int.mul_nonneg (Int.mul_nonneg (by omega) (by omega)) (y0 i (by omega))
        · show 0 < dotV m _ a + (if m = m then K * al + 1 else K * rb * y m) * a m
          rw [if_pos rfl, dot_congr (y' := fun i => K * rb * y i) (u' := a) (fun i hi => if_neg (by omega)) (fun _ _ => rfl), dot_mulL]
          obtain ⟨d, hd⟩ : ∃ d, d = dotV m y a := ⟨_, rfl⟩
          have kr := Int.mul_pos k0 hb2
          by_cases h1 : 0 < a m
          · have h2 := hq a ha h1
            rw [← hd] at h2 ⊢
            have h3 : 0 ≤ K * (al * a m - -d * rb) := Int.mul_nonneg (by omega) (by omega)
            grind
          · by_cases h2 : a m = 0
            · have h3 := hn a ha (by omega)
              rw [← hd] at h3 ⊢
              have := Int.mul_pos kr h3
              rw [h2]
              omega
            · have h3 := hpq pb hb1 a ha (by omega) (by omega)
              have h4 := hK a ha
              rw [← hd, ← hrb, show dotV m y pb = -al by omega] at h3
              rw [← hd]
              have h5 : K * 1 ≤ K * (-(a m) * -al + rb * d) := Int.mul_le_mul_of_nonneg_left (by omega) (by omega)
              grind
      · have hP : ∀ p ∈ A, 0 < p m → 0 < dotV m y p := fun p hp h => by
          by_cases z : 0 < dotV m y p
          · exact z
          · exact absurd ⟨p, hp, h, by omega⟩ hP
        refine .inr ⟨fun i => if i = m then 0 else y i, fun i hi => ?_, fun a ha => ?_⟩
        · show 0 ≤ if i = m then 0 else y i
          split
          · omega
          · exact y0 i (by omega)
        · show 0 < dotV m _ a + (if m = m then 0 else y m) * a m
          rw [if_pos rfl, dot_congr (y' := y) (u' := a) (fun i hi => if_neg (by omega)) (fun _ _ => rfl), Int.zero_mul, Int.add_zero]
          by_cases h1 : 0 < a m
          · exact hP a ha h1
          · exact hn a ha (by omega)

/-! a table's even weighing: there is one -/
theorem dot_zero {a : Vc} : ∀ {n : Nat} {y : Vc}, (∀ i, i < n → y i = 0) → dotV n y a = 0
  | 0, _, _ => rfl
  | n + 1, y, h => by
    unfold dotV
    rw [dot_zero (n := n) fun i hi => h i (by omega), h n (by omega), Int.zero_mul]
    rfl
theorem dot_addL {y z a : Vc} : ∀ {n : Nat}, dotV n (fun i => y i + z i) a = dotV n y a + dotV n z a
  | 0 => rfl
  | n + 1 => by
    unfold dotV
    rw [dot_addL]
    grind
theorem dot_ind {a : Vc} {j : Nat} : ∀ {n : Nat}, j < n → dotV n (fun i => if i = j then 1 else 0) a = a j
  | 0, h => by omega
  | n + 1, h => by
    unfold dotV
    by_cases e : n = j
    · subst e
      rw [dot_zero (n := n) fun i hi => if_neg (by omega)]
      show 0 + (if n = n then 1 else 0) * a n = a n
      rw [if_pos rfl]
      omega
    · rw [dot_ind (n := n) (by omega)]
      show a j + (if n = j then 1 else 0) * a n = a j
      rw [if_neg e]
      omega
theorem dot_swap {x z : Vc} {a : Nat → Nat → Int} {n : Nat} : ∀ {m : Nat}, dotV m x (fun i => dotV n z (fun j => a i j)) = dotV n z (fun j => dotV m x (fun i => a i j))
  | 0 => by
    show (0 : Int) = dotV n z fun _ => 0
    have := dot_mul (y := z) (u := fun _ => 0) (c := 0) (n := n)
    simp at this
    exact this.symm
  | m + 1 => by
    show dotV m x (fun i => dotV n z fun j => a i j) + x m * dotV n z (fun j => a m j) = dotV n z (fun j => dotV m x (fun i => a i j) + x m * a m j)
    rw [dot_swap (m := m), dot_add (u := fun j => dotV m x (fun i => a i j)) (v := fun j => x m * a m j), dot_mul]
theorem dot_neg {y u : Vc} {n : Nat} : dotV n y (fun i => -u i) = -dotV n y u := by
  have := dot_mul (y := y) (u := u) (c := -1) (n := n)
  have e : (fun i => -1 * u i) = fun i => -u i := funext fun i => by omega
  rw [e] at this
  omega
theorem dot_skew {s : Nat → Nat → Int} (sk : ∀ a b, s a b = -s b a) {m : Nat} {x : Vc} : dotV m x (fun i => dotV m x (s i)) = 0 := by
  have h1 := dot_swap (x := x) (z := x) (a := s) (n := m) (m := m)
  have e : (fun j => dotV m x (fun i => s i j)) = fun j => -dotV m x (s j) := funext fun j => by
    rw [← dot_neg]
    exact dot_congr (fun _ _ => rfl) fun i _ => sk i j
  rw [e, dot_neg] at h1
  have h1 : dotV m x (fun i => dotV m x (s i)) = -dotV m x (fun i => dotV m x (s i)) := h1
  omega
theorem dot_nn {a : Vc} : ∀ {n : Nat} {y : Vc}, (∀ i, i < n → 0 ≤ y i * a i) → 0 ≤ dotV n y a ∧ ∀ i, i < n → y i * a i ≤ dotV n y a
  | 0, y, _ => ⟨Int.le_refl _, fun i hi => by omega⟩
  | n + 1, y, h => by
    obtain ⟨h1, h2⟩ := dot_nn (n := n) fun i hi => h i (by omega)
    have h3 := h n (by omega)
    refine ⟨by unfold dotV; omega, fun i hi => ?_⟩
    unfold dotV
    by_cases e : i = n
    · subst e; omega
    · have := h2 i (by omega)
      omega
theorem cn_coef {s : Nat → Nat → Int} {m : Nat} {v : Vc} (h : Cn ((List.range m).map fun j => fun i => s i j) v) : ∃ x : Vc, (∀ i, 0 ≤ x i) ∧ (∃ i, i < m ∧ 0 < x i) ∧ (∀ i, m ≤ i → x i = 0) ∧ ∀ i, v i = dotV m x (s i) := by
  induction h with
  | one ha =>
    obtain ⟨j, hj, rfl⟩ := List.mem_map.mp ha
    have hj := List.mem_range.mp hj
    refine ⟨fun i => if i = j then 1 else 0, fun i => by dsimp only; split <;> omega, ⟨j, hj, by dsimp only; rw [if_pos rfl]; omega⟩, fun i hi => if_neg (by omega), fun i => (dot_ind hj).symm⟩
  | add _ _ h1 h2 =>
    obtain ⟨x, a1, ⟨i, hi, a2⟩, a3, a4⟩ := h1
    obtain ⟨z, b1, _, b3, b4⟩ := h2
    refine ⟨fun i => x i + z i, fun i => by have := a1 i; have := b1 i; dsimp only; omega, ⟨i, hi, by have := b1 i; dsimp only; omega⟩, fun i hi => by dsimp only; rw [a3 i hi, b3 i hi]; rfl, fun i => ?_⟩
    rw [dot_addL, ← a4, ← b4]
theorem skew_some {s : Nat → Nat → Int} (sk : ∀ a b, s a b = -s b a) {m : Nat} (hm : 0 < m) : ∃ x : Vc, (∀ i, 0 ≤ x i) ∧ (∃ i, i < m ∧ 0 < x i) ∧ (∀ i, i < m → dotV m x (s i) ≤ 0) ∧ ∀ i, i < m → 0 < x i → dotV m x (s i) = 0 := by
  rcases ville m ((List.range m).map fun j => fun i => s i j) with ⟨v, hv, h⟩ | ⟨y, y0, hy⟩
  · obtain ⟨x, h1, h2, h3, h4⟩ := cn_coef hv
    have hu : ∀ i, i < m → dotV m x (s i) ≤ 0 := fun i hi => by rw [← h4]; exact h i hi
    refine ⟨x, h1, h2, hu, fun i hi hx => ?_⟩
    have h5 := dot_skew sk (m := m) (x := x)
    have h6 := dot_nn (n := m) (y := x) (a := fun i => -dotV m x (s i)) fun i hi => Int.mul_nonneg (h1 i) (by have := hu i hi; omega)
    rw [dot_neg, h5] at h6
    have h7 := h6.2 i hi
    have h8 := hu i hi
    by_cases z : dotV m x (s i) = 0
    · exact z
    · have := Int.mul_pos hx (show 0 < -dotV m x (s i) by omega)
      have h7 : x i * -dotV m x (s i) ≤ -0 := h7
      omega
  · have hy : ∀ j, j < m → 0 < dotV m y (fun i => s i j) := fun j hj => hy _ (List.mem_map.mpr ⟨j, List.mem_range.mpr hj, rfl⟩)
    have h5 : dotV m y (fun j => dotV m y (fun i => s i j)) = 0 := by
      rw [← dot_swap (x := y) (z := y) (a := s) (n := m) (m := m)]
      exact dot_skew sk
    have h6 := dot_nn (n := m) (y := y) (a := fun j => dotV m y (fun i => s i j)) fun i hi => Int.mul_nonneg (y0 i hi) (by have := hy i hi; omega)
    rw [h5] at h6
    have hz : ∀ i, i < m → y i = 0 := fun i hi => by
      have h7 := h6.2 i hi
      have h8 := y0 i hi
      by_cases z : y i = 0
      · exact z
      · have := Int.mul_pos (show 0 < y i by omega) (hy i hi)
        omega
    have := hy 0 hm
    rw [dot_zero hz] at this
    omega
/-! sums over a list -/
def lsum (L : List Nat) (f : Nat → Int) : Int := (L.map f).sum
theorem ls_cons {a : Nat} {L : List Nat} {f : Nat → Int} : lsum (a :: L) f = f a + lsum L f := by unfold lsum; simp
theorem ls_congr {L : List Nat} {f g : Nat → Int} (h : ∀ x ∈ L, f x = g x) : lsum L f = lsum L g := by
  unfold lsum
  rw [List.map_congr_left h]
theorem ls_zero {L : List Nat} {f : Nat → Int} (h : ∀ x ∈ L, f x = 0) : lsum L f = 0 := by
  induction L with
  | nil => rfl
  | cons a r ih => rw [ls_cons, h a List.mem_cons_self, ih fun x hx => h x (List.mem_cons_of_mem _ hx)]; rfl
theorem ls_add {L : List Nat} {f g : Nat → Int} : lsum L (fun x => f x + g x) = lsum L f + lsum L g := by
  induction L with
  | nil => rfl
  | cons a r ih => rw [ls_cons, ls_cons, ls_cons, ih]; omega
theorem ls_mul {L : List Nat} {f : Nat → Int} {c : Int} : lsum L (fun x => c * f x) = c * lsum L f := by
  induction L with
  | nil => show (0 : Int) = c * 0; omega
  | cons a r ih => rw [ls_cons, ls_cons, ih, Int.mul_add]
theorem ls_swap {L M : List Nat} {f : Nat → Nat → Int} : lsum L (fun a => lsum M fun b => f a b) = lsum M (fun b => lsum L fun a => f a b) := by
  induction L with
  | nil => exact (ls_zero fun _ _ => rfl).symm
  | cons a r ih => rw [ls_cons, ih, ← ls_add]; exact ls_congr fun b _ => (ls_cons (f := fun a => f a b)).symm
theorem ls_perm {L M : List Nat} {f : Nat → Int} (h : L.Perm M) : lsum L f = lsum M f := by
  induction h with
  | nil => rfl
  | cons x _ ih => rw [ls_cons, ls_cons, ih]
  | swap x y l => rw [ls_cons, ls_cons, ls_cons, ls_cons]; omega
  | trans _ _ h1 h2 => rw [h1, h2]
theorem ls_filter {L : List Nat} {p : Nat → Bool} {f : Nat → Int} (h : ∀ x ∈ L, p x = false → f x = 0) : lsum (L.filter p) f = lsum L f := by
  induction L with
  | nil => rfl
  | cons a r ih =>
    have ih := ih fun x hx => h x (List.mem_cons_of_mem _ hx)
    rw [List.filter_cons]
    cases e : p a with
    | true => rw [if_pos rfl, ls_cons, ls_cons, ih]
    | false => rw [if_neg Bool.false_ne_true, ls_cons, ih, h a List.mem_cons_self e]; omega
theorem dot_ls {y a : Vc} : ∀ {n : Nat}, dotV n y a = lsum (List.range n) fun i => y i * a i
  | 0 => rfl
  | n + 1 => by
    unfold dotV
    rw [dot_ls (n := n)]
    unfold lsum
    rw [List.range_succ, List.map_append, List.sum_append]
    simp

/-! the kernel of an odd set of things is all that weighs them evenly -/
section
variable {s : Nat → Nat → Int} {m : Nat}
def idx (S : List Nat) (t : Nat) : Nat := S.idxOf t
def vt (s : Nat → Nat → Int) (S : List Nat) (t : Nat) : Int := sg (idx S t) * Pf s 12 (S.eraseIdx (idx S t))
theorem idx_at {S : List Nat} (nd : S.Nodup) {k : Nat} (hk : k < S.length) : idx S (S.getD k 0) = k := by
  unfold idx
  rw [List.getD_eq_getElem?_getD, List.getElem?_eq_getElem hk]
  exact List.Nodup.idxOf_getElem nd k hk
theorem ls_idx {S : List Nat} {f : Nat → Int} : lsum S f = lsum (List.range S.length) fun k => f (S.getD k 0) := by
  unfold lsum
  congr 1
  apply List.ext_getElem
  · simp
  · intro i h1 h2
    have h1 : i < S.length := by simpa using h1
    simp [List.getD, List.getElem?_eq_getElem h1]
theorem ex_ls {S : List Nat} (nd : S.Nodup) {i : Nat} : Ex s i (Pf s 12) S = lsum S fun t => s i t * vt s S t := by
  rw [ex_sum, ls_idx]
  unfold lsum
  congr 1
  apply List.map_congr_left
  intro k hk
  have hk := List.mem_range.mp hk
  unfold vt
  rw [idx_at nd hk]
  ac_rfl
structure OddPf (s : Nat → Nat → Int) (m : Nat) : Prop where
  sk : ∀ a b, s a b = -s b a
  one : ∀ L : List Nat, L.Nodup → (∀ x ∈ L, x < m) → L.length % 2 = 0 → Pf s 12 L % 2 = 1
  two : ∀ (i : Nat) (R : List Nat), (i :: R).Nodup → (∀ x ∈ i :: R, x < m) → R.length % 2 = 1 → Ex s i (Pf s 12) R % 2 = 1
/-- an even set has nothing that weighs it evenly -/
theorem even_none (O : OddPf s m) {i : Nat} {R : List Nat} (nd : (i :: R).Nodup) (hlt : ∀ x ∈ i :: R, x < m) (hR : R.length % 2 = 1) {z : Nat → Int} (h : ∀ y ∈ R, lsum (i :: R) (fun t => s y t * z t) = 0) : z i = 0 := by
  have nd' := (List.nodup_cons.mp nd).2
  have hG : ∀ y ∈ R, lsum R (fun t => s y t * vt s R t) = 0 := fun y hy => by rw [← ex_ls nd']; exact ex_two O.sk hy
  have hi := O.two i R nd hlt hR
  rw [ex_ls nd'] at hi
  have e0 : lsum R (fun y => vt s R y * lsum (i :: R) (fun t => s y t * z t)) = 0 := ls_zero fun y hy => by rw [h y hy]; omega
  have e1 : lsum R (fun y => vt s R y * lsum (i :: R) (fun t => s y t * z t)) = lsum (i :: R) (fun t => -(z t * lsum R (fun y => s t y * vt s R y))) := by
    have a1 : lsum R (fun y => vt s R y * lsum (i :: R) (fun t => s y t * z t)) = lsum R (fun y => lsum (i :: R) (fun t => vt s R y * (s y t * z t))) := ls_congr fun y _ => ls_mul.symm
    rw [a1, ls_swap]
    refine ls_congr fun t _ => ?_
    have a2 : -(z t * lsum R (fun y => s t y * vt s R y)) = -z t * lsum R (fun y => s t y * vt s R y) := by rw [Int.neg_mul]
    rw [a2, ← ls_mul]
    refine ls_congr fun y _ => ?_
    rw [O.sk y t]
    grind
  have e2 : lsum R (fun t => -(z t * lsum R (fun y => s t y * vt s R y))) = 0 := ls_zero fun t ht => by rw [hG t ht]; omega
  rw [e1, ls_cons, e2] at e0
  rcases Int.mul_eq_zero.mp (show z i * lsum R (fun y => s i y * vt s R y) = 0 by omega) with h | h
  · exact h
  · rw [h] at hi
    cases hi
variable {x : Vc}
/-- what weighs things evenly and each other one less -/
structure Ev (s : Nat → Nat → Int) (m : Nat) (x : Vc) : Prop where
  nn : ∀ i, 0 ≤ x i
  some : ∃ i, i < m ∧ 0 < x i
  le : ∀ i, i < m → dotV m x (s i) ≤ 0
  eq : ∀ i, i < m → 0 < x i → dotV m x (s i) = 0
def supp (m : Nat) (x : Vc) : List Nat := (List.range m).filter fun i => decide (0 < x i)
theorem supp_nd : (supp m x).Nodup := List.nodup_range.filter _
theorem supp_lt : ∀ t ∈ supp m x, t < m := fun t ht => List.mem_range.mp (List.mem_filter.mp ht).1
theorem supp_pos : ∀ t ∈ supp m x, 0 < x t := fun t ht => of_decide_eq_true (List.mem_filter.mp ht).2
theorem dot_supp (nn : ∀ i, 0 ≤ x i) {a : Vc} : dotV m x a = lsum (supp m x) fun t => a t * x t := by
  rw [dot_ls, show (fun i => x i * a i) = fun t => a t * x t from funext fun i => Int.mul_comm _ _]
  refine (ls_filter fun i _ hp => ?_).symm
  have := of_decide_eq_false hp
  have := nn i
  rw [show x i = 0 by omega, Int.mul_zero]
theorem ev_odd (O : OddPf s m) (E : Ev s m x) : (supp m x).length % 2 = 1 := by
  have hne : supp m x ≠ [] := fun e => by
    obtain ⟨i, hi, hx⟩ := E.some
    have : i ∈ supp m x := List.mem_filter.mpr ⟨List.mem_range.mpr hi, decide_eq_true hx⟩
    rw [e] at this
    cases this
  obtain ⟨i, R, e⟩ : ∃ i R, supp m x = i :: R := by
    cases h : supp m x with
    | nil => exact absurd h hne
    | cons a r => exact ⟨a, r, rfl⟩
  have nd := supp_nd (m := m) (x := x)
  have lt := supp_lt (m := m) (x := x)
  have ps := supp_pos (m := m) (x := x)
  by_cases hR : (supp m x).length % 2 = 1
  · exact hR
  · have z := even_none O (i := i) (R := R) (e ▸ nd) (e ▸ lt) (by rw [e, List.length_cons] at hR; omega) (z := x) fun y hy => by
      have hy' : y ∈ supp m x := by rw [e]; exact List.mem_cons_of_mem _ hy
      rw [← e, ← dot_supp E.nn (a := s y)]
      exact E.eq y (lt y hy') (ps y hy')
    have := ps i (by rw [e]; exact List.mem_cons_self)
    omega
theorem ev_prop (O : OddPf s m) (E : Ev s m x) {a b : Nat} (ha : a ∈ supp m x) (hb : b ∈ supp m x) : vt s (supp m x) b * x a = x b * vt s (supp m x) a := by
  by_cases hab : a = b
  · subst hab; exact Int.mul_comm _ _
  · have nd := supp_nd (m := m) (x := x)
    have lt := supp_lt (m := m) (x := x)
    have ps := supp_pos (m := m) (x := x)
    have od := ev_odd O E
    obtain ⟨S, hS⟩ : ∃ S, S = supp m x := ⟨_, rfl⟩
    rw [← hS] at ha hb nd lt ps od ⊢
    have p1 : S.Perm (a :: S.erase a) := List.perm_cons_erase ha
    have hb' : b ∈ S.erase a := (List.mem_erase_of_ne (Ne.symm hab)).mpr hb
    have p2 : S.Perm (b :: a :: (S.erase a).erase b) := (p1.trans ((List.perm_cons_erase hb').cons a)).trans (.swap _ _ _)
    have nd2 : (b :: a :: (S.erase a).erase b).Nodup := p2.nodup_iff.mp nd
    have z := even_none O (i := a) (R := (S.erase a).erase b) (List.nodup_cons.mp nd2).2 (fun t ht => lt t (p2.mem_iff.mpr (List.mem_cons_of_mem _ ht))) (by
      have := p2.length_eq
      simp only [List.length_cons] at this
      omega) (z := fun t => vt s S b * x t - x b * vt s S t) fun y hy => by
        have hyS : y ∈ S := p2.mem_iff.mpr (List.mem_cons_of_mem _ (List.mem_cons_of_mem _ hy))
        have e1 : lsum S (fun t => s y t * (vt s S b * x t - x b * vt s S t)) = 0 := by
          have a1 : (fun t => s y t * (vt s S b * x t - x b * vt s S t)) = fun t => vt s S b * (s y t * x t) + -x b * (s y t * vt s S t) := funext fun t => by grind
          rw [a1, ls_add, ls_mul, ls_mul, ← ex_ls nd, ex_two O.sk hyS]
          have a2 := E.eq y (lt y hyS) (ps y hyS)
          rw [dot_supp E.nn, ← hS] at a2
          rw [a2]
          omega
        rw [ls_perm p2, ls_cons] at e1
        have e2 : s y b * (vt s S b * x b - x b * vt s S b) = 0 := by
          rw [Int.mul_comm (vt s S b)]
          simp
        omega
    omega
/-- and so the kernel is of one sign, and each other thing lies below nought -/
theorem ev_ker (O : OddPf s m) (E : Ev s m x) : ∃ ε : Int, (ε = 1 ∨ ε = -1) ∧ (∀ t ∈ supp m x, 0 < ε * vt s (supp m x) t) ∧ (∀ i, i < m → i ∉ supp m x → ε * lsum (supp m x) (fun t => s i t * vt s (supp m x) t) < 0) := by
  have nd := supp_nd (m := m) (x := x)
  have lt := supp_lt (m := m) (x := x)
  have ps := supp_pos (m := m) (x := x)
  have od := ev_odd O E
  have pr := fun {a b : Nat} => ev_prop O E (a := a) (b := b)
  obtain ⟨S, hS⟩ : ∃ S, S = supp m x := ⟨_, rfl⟩
  rw [← hS] at nd lt ps od ⊢
  have pr : ∀ {a b : Nat}, a ∈ S → b ∈ S → vt s S b * x a = x b * vt s S a := by rw [hS]; exact pr
  obtain ⟨b, hb⟩ : ∃ b, b ∈ S := by
    cases h : S with
    | nil => rw [h] at od; cases od
    | cons a r => exact ⟨a, List.mem_cons_self⟩
  have hv : ∀ t ∈ S, vt s S t ≠ 0 := fun t ht h => by
    have hk : idx S t < S.length := List.idxOf_lt_length_of_mem ht
    have := O.one (S.eraseIdx (idx S t)) (nd.sublist (List.eraseIdx_sublist _ _)) (fun y hy => lt y (List.mem_of_mem_eraseIdx hy)) (by rw [List.length_eraseIdx, if_pos hk]; omega)
    unfold vt at h
    rcases sg_one (idx S t) with e | e <;> rw [e] at h <;> omega
  have xb := ps b hb
  obtain ⟨ε, he, hε⟩ : ∃ ε : Int, (ε = 1 ∨ ε = -1) ∧ 0 < ε * vt s S b := by
    by_cases h : 0 < vt s S b
    · exact ⟨1, .inl rfl, by omega⟩
    · exact ⟨-1, .inr rfl, by have := hv b hb; omega⟩
  refine ⟨ε, he, fun t ht => ?_, fun i hi hn => ?_⟩
  · have h1 := pr ht hb
    have h2 := Int.mul_pos hε (ps t ht)
    have h3 : x b * (ε * vt s S t) = ε * vt s S b * x t := by grind
    rw [← h3, Int.mul_comm] at h2
    exact Int.pos_of_mul_pos_left h2 xb
  · have h1 := O.two i S (List.nodup_cons.mpr ⟨hn, nd⟩) (fun y hy => by
      rcases List.mem_cons.mp hy with rfl | hy
      · exact hi
      · exact lt y hy) od
    rw [ex_ls nd] at h1
    have h2 := E.le i hi
    rw [dot_supp E.nn, ← hS] at h2
    have h3 : x b * lsum S (fun t => s i t * vt s S t) = vt s S b * lsum S (fun t => s i t * x t) := by
      rw [← ls_mul, ← ls_mul]
      refine ls_congr fun t ht => ?_
      have := pr ht hb
      grind
    obtain ⟨g, hg⟩ : ∃ g, g = lsum S (fun t => s i t * vt s S t) := ⟨_, rfl⟩
    obtain ⟨u, hu⟩ : ∃ u, u = lsum S (fun t => s i t * x t) := ⟨_, rfl⟩
    rw [← hg] at h1 h3 ⊢
    rw [← hu] at h2 h3
    have h4 : x b * (ε * g) = ε * vt s S b * u := by grind
    have h5 : ε * vt s S b * u ≤ 0 := Int.mul_nonpos_of_nonneg_of_nonpos (by omega) h2
    have h6 : ε * g ≠ 0 := fun z => by
      rcases Int.mul_eq_zero.mp z with z | z
      · omega
      · rw [z] at h1; cases h1
    by_cases z : ε * g < 0
    · exact z
    · have := Int.mul_pos xb (show 0 < ε * g by omega)
      omega
end

/-! the sums over pairings of a full table are odd, and no greater than the number of pairings -/
theorem nd_len {m : Nat} {L : List Nat} (nd : L.Nodup) (h : ∀ x ∈ L, x < m) : L.length ≤ m := by
  have := List.Nodup.length_le_of_subset nd (l₂ := List.range m) fun x hx => List.mem_range.mpr (h x hx)
  rwa [List.length_range] at this
theorem odd_pf {T : List (List Bool)} {m : Nat} (F : Full m T) (hm : m ≤ 8) : OddPf (sk2 T m) m where
  sk := sk2_skew
  one := fun L nd h he => by
    have hl := nd_len nd h
    rw [← pfS_Pf F (c := L.length / 2) nd h (by omega) (by omega)]
    exact pf_odd (c := L.length / 2) (by omega)
  two := fun i R nd h he => by
    have hl := nd_len nd h
    have hl' : R.length + 1 ≤ m := hl
    show Pf (sk2 T m) 13 (i :: R) % 2 = 1
    rw [← pfS_Pf F (c := (R.length + 1) / 2) nd h (by show R.length + 1 = _; omega) (by omega)]
    exact pf_odd (c := (R.length + 1) / 2) (by show R.length + 1 = _; omega)
theorem pf_grid {T : List (List Bool)} {S : List Nat} : ∀ {n : Nat} {L : List Nat}, (∀ k ∈ L, k < S.length) → pfS (gridT S (at2 T)) n L = pfS T n (L.map fun k => S.getD k 0)
  | 0, _, _ => rfl
  | n + 1, [], _ => rfl
  | n + 1, x :: r, h => by
    show ((List.range r.length).map fun k => sg k * sgn (gridT S (at2 T)) x (r.getD k 0) * pfS (gridT S (at2 T)) n (r.eraseIdx k)).sum = ((List.range (r.map fun k => S.getD k 0).length).map fun k => sg k * sgn T (S.getD x 0) ((r.map fun k => S.getD k 0).getD k 0) * pfS T n ((r.map fun k => S.getD k 0).eraseIdx k)).sum
    rw [List.length_map]
    refine sum_congr fun k hk => ?_
    have hk := List.mem_range.mp hk
    have hy : r.getD k 0 ∈ r := by
      rw [List.getD_eq_getElem?_getD, List.getElem?_eq_getElem hk]
      exact List.getElem_mem hk
    have e1 : (r.map fun k => S.getD k 0).getD k 0 = S.getD (r.getD k 0) 0 := by simp [List.getD, List.getElem?_eq_getElem hk]
    have e2 : sgn (gridT S (at2 T)) x (r.getD k 0) = sgn T (S.getD x 0) (S.getD (r.getD k 0) 0) := by
      unfold sgn
      rw [at_gridL (h x List.mem_cons_self) (h _ (List.mem_cons_of_mem _ hy))]
    rw [e1, e2, pf_grid (n := n) fun j hj => h j (List.mem_cons_of_mem _ (List.mem_of_mem_eraseIdx hj)), erase_map]
theorem rng_map {S : List Nat} : (List.range S.length).map (fun k => S.getD k 0) = S := by
  apply List.ext_getElem
  · simp
  · intro i h1 h2
    simp [List.getD, List.getElem?_eq_getElem h2]
theorem er_map {S : List Nat} {k : Nat} : ((List.range S.length).eraseIdx k).map (fun k => S.getD k 0) = S.eraseIdx k := by rw [← erase_map, rng_map]
/-- the kernel of the part of the table on the things S -/
theorem ker_part {T : List (List Bool)} {m c : Nat} (F : Full m T) {S : List Nat} (nd : S.Nodup) (hlt : ∀ x ∈ S, x < m) (hl : S.length = 2 * c + 1) (hc : c ≤ 3) : kerL (gridT S (at2 T)) S.length = S.map (vt (sk2 T m) S) := by
  apply List.ext_getElem
  · rw [ker_len, List.length_map]
  · intro k h1 h2
    have hk : k < S.length := by simpa using h2
    have e1 := ker_at (T := gridT S (at2 T)) hk
    rw [List.getD_eq_getElem?_getD, List.getElem?_eq_getElem (by rw [ker_len]; exact hk)] at e1
    have e1 : (kerL (gridT S (at2 T)) S.length)[k] = sg k * pfS (gridT S (at2 T)) 12 ((List.range S.length).eraseIdx k) := e1
    rw [e1, List.getElem_map, pf_grid fun j hj => List.mem_range.mp (List.mem_of_mem_eraseIdx hj), er_map]
    have hi := idx_at nd hk
    rw [List.getD_eq_getElem?_getD, List.getElem?_eq_getElem hk] at hi
    have hi : idx S S[k] = k := hi
    unfold vt
    rw [hi, pfS_Pf F (c := c) (nd.sublist (List.eraseIdx_sublist _ k)) (fun x hx => hlt x (List.mem_of_mem_eraseIdx hx)) (by rw [List.length_eraseIdx, if_pos hk]; omega) (by omega)]
def dfI : Nat → Int
  | 0 => 1
  | c + 1 => (2 * (c : Int) + 1) * dfI c
theorem pf_df {T : List (List Bool)} : ∀ {n c : Nat} {L : List Nat}, L.length = 2 * c → -dfI c ≤ pfS T n L ∧ pfS T n L ≤ dfI c
  | _, 0, L, h => by
    have : L = [] := List.length_eq_zero_iff.mp (by omega)
    subst this
    rename_i n
    have e : pfS T n [] = 1 := by cases n <;> rfl
    rw [e]
    decide
  | 0, c + 1, L, h => by
    have h1 : ∀ c, 1 ≤ dfI c := fun c => by
      induction c with
      | zero => decide
      | succ c ih =>
        have := Int.mul_le_mul (show (1 : Int) ≤ 2 * (c : Int) + 1 by omega) ih (by omega) (by omega)
        exact this
    have := h1 (c + 1)
    show -dfI (c + 1) ≤ 1 ∧ (1 : Int) ≤ dfI (c + 1)
    omega
  | n + 1, c + 1, [], h => by simp at h
  | n + 1, c + 1, x :: r, h => by
    have hr : r.length = 2 * c + 1 := by simp at h; omega
    have := sum_bound (c := r.length) (B := dfI c) (f := fun k => sg k * sgn T x (r.getD k 0) * pfS T n (r.eraseIdx k)) fun k hk => by
      have b := pf_df (T := T) (n := n) (c := c) (L := r.eraseIdx k) (by rw [List.length_eraseIdx, if_pos hk]; omega)
      show -dfI c ≤ sg k * sgn T x (r.getD k 0) * pfS T n (r.eraseIdx k) ∧ sg k * sgn T x (r.getD k 0) * pfS T n (r.eraseIdx k) ≤ dfI c
      rcases sg_one k with h | h <;> rcases sgn_one T x (r.getD k 0) with h' | h' <;> rw [h, h'] <;> omega
    have e : dfI (c + 1) = (r.length : Int) * dfI c := by
      show (2 * (c : Int) + 1) * dfI c = _
      rw [hr]
      rfl
    rw [e]
    exact this
theorem df_15 {c : Nat} (h : c ≤ 3) : dfI c ≤ 15 := by
  rcases c with _ | _ | _ | _ | c
  · decide
  · decide
  · decide
  · decide
  · omega
theorem vt_of {T : List (List Bool)} {m c : Nat} (F : Full m T) {S : List Nat} (nd : S.Nodup) (hlt : ∀ x ∈ S, x < m) (hl : S.length = 2 * c + 1) (hc : c ≤ 3) {t : Nat} (ht : t ∈ S) : vt (sk2 T m) S t % 2 = 1 ∧ (vt (sk2 T m) S t).natAbs ≤ 15 := by
  have hk : idx S t < S.length := List.idxOf_lt_length_of_mem ht
  have hle : (S.eraseIdx (idx S t)).length = 2 * c := by rw [List.length_eraseIdx, if_pos hk]; omega
  unfold vt
  rw [← pfS_Pf F (c := c) (nd.sublist (List.eraseIdx_sublist _ _)) (fun x hx => hlt x (List.mem_of_mem_eraseIdx hx)) hle (by omega)]
  have h1 := pf_odd (T := T) (n := 12) hle
  have h2 := pf_df (T := T) (n := 12) hle
  have h3 := df_15 hc
  rcases sg_one (idx S t) with h | h <;> rw [h] <;> omega

/-! the greatest common divisor, by remainders -/
theorem two_eq {a b : Nat} (hb : b ≤ 90) : m_divisor_of_two [.int (a : Int), .int (b : Int)] = some (.int ((Nat.gcd a b : Nat) : Int)) := by
  refine run_of rfl ?_
  simp! only [g_divisor_of_two]
  refine hol_bindO (I := fun s => ∃ o1 o2, s = [some (.sh (.int ((Nat.gcd a b : Nat) : Int))), o1, o2]) ?_ ?_
  · refine while_hol (fun n s => ∃ (x y : Nat) (o2 : Option SD), s = [some (.sh (.int (x : Int))), some (.sh (.int (y : Int))), o2] ∧ Nat.gcd x y = Nat.gcd a b ∧ y ≤ n) (n := b) ⟨a, b, _, rfl, rfl, Nat.le_refl _⟩ ?_ (by omega)
    rintro n s ⟨x, y, o2, rfl, hg, hy⟩
    refine ⟨decide ((y : Int) > 0), by simp! only [], fun hk => ?_, fun hk => ?_⟩
    · have hk := of_decide_eq_false hk
      have : y = 0 := by omega
      subst this
      rw [Nat.gcd_zero_right] at hg
      exact ⟨_, rfl, _, _, by rw [hg]⟩
    · have hk := of_decide_eq_true hk
      have md : modI (.int (x : Int)) (.int (y : Int)) = some (.int ((x % y : Nat) : Int)) := ea_mod (by omega)
      refine ⟨n - 1, by omega, ?_⟩
      simp! only [md, hol_some]
      refine ⟨y, x % y, _, rfl, ?_, ?_⟩
      · rw [← hg, Nat.gcd_comm x y, Nat.gcd_rec y x, Nat.gcd_comm]
      · have := Nat.mod_lt x (show 0 < y by omega)
        omega
  · rintro s ⟨o1, o2, rfl⟩
    simp! only [hol_some]
def gcL (vs : List Int) : Nat := vs.foldl (fun g v => Nat.gcd g v.natAbs) 0
theorem gcL_snoc {vs : List Int} {v : Int} : gcL (vs ++ [v]) = Nat.gcd (gcL vs) v.natAbs := by
  unfold gcL
  rw [List.foldl_append]
  rfl
theorem common_eq {vs : List Int} (h : ∀ v ∈ vs, v.natAbs ≤ 90) : m_common_divisor [inD' vs] = some (.int ((gcL vs : Nat) : Int)) := by
  refine run_of rfl ?_
  have sq : seqD (inD' vs) = some (vs.map .int) := rfl
  simp! only [g_common_divisor, sq]
  refine hol_bindO (I := fun s => ∃ o2, s = [some (.sh (inD' vs)), some (.sh (.int ((gcL vs : Nat) : Int))), o2]) (for_map (enc := D.int) (xs := vs) (fun pre s => ∃ o2, s = [some (.sh (inD' vs)), some (.sh (.int ((gcL pre : Nat) : Int))), o2]) ⟨_, rfl⟩ ?_ fun s z => ⟨s, rfl, z⟩) ?_
  · rintro pre v post e s ⟨o2, rfl⟩
    have ab : absF [.int v] = some (.int ((v.natAbs : Nat) : Int)) := by
      show some (D.int (if v < 0 then -v else v)) = _
      congr 2
      split <;> omega
    simp! only [ab, two_eq (a := gcL pre) (h v (by rw [e]; simp)), gcL_snoc, hol_some]
    exact ⟨_, rfl⟩
  · rintro s ⟨o2, rfl⟩
    simp! only [hol_some]
theorem gc_dvd {vs : List Int} : ∀ v ∈ vs, gcL vs ∣ v.natAbs := by
  have h : ∀ (r vs : List Int), vs = r.reverse → ∀ v ∈ vs, gcL vs ∣ v.natAbs := by
    intro r
    induction r with
    | nil => rintro vs rfl v hv; cases hv
    | cons a r ih =>
      rintro vs rfl v hv
      rw [List.reverse_cons] at hv ⊢
      rw [gcL_snoc]
      rcases List.mem_append.mp hv with hv | hv
      · exact Nat.dvd_trans (Nat.gcd_dvd_left _ _) (ih _ rfl v hv)
      · rw [List.mem_singleton.mp hv]
        exact Nat.gcd_dvd_right _ _
  exact h vs.reverse vs (List.reverse_reverse vs).symm
theorem dvd_gc {d : Nat} {vs : List Int} (hd : ∀ v ∈ vs, d ∣ v.natAbs) : d ∣ gcL vs := by
  have h : ∀ (r vs : List Int), vs = r.reverse → (∀ v ∈ vs, d ∣ v.natAbs) → d ∣ gcL vs := by
    intro r
    induction r with
    | nil => rintro vs rfl _; exact Nat.dvd_zero d
    | cons a r ih =>
      rintro vs rfl hv
      rw [List.reverse_cons] at hv ⊢
      rw [gcL_snoc]
      exact Nat.dvd_gcd (ih _ rfl fun v h => hv v (List.mem_append.mpr (.inl h))) (hv a (by simp))
  exact h vs.reverse vs (List.reverse_reverse vs).symm hd

/-! weights on a set of things -/
theorem for_zip {α : Type} {ea eb : α → D} {i j : Nat} {b : SS → Option Out} {QO : Out → Prop} {xs : List α} (I : List α → SS → Prop) (hs : ∀ pre x post, xs = pre ++ x :: post → ∀ δ, I pre δ → hol (b ((δ.set i (some (.sh (ea x)))).set j (some (.sh (eb x))))) fun o => match o with | .nx δ' => I (pre ++ [x]) δ' | .ct δ' => I (pre ++ [x]) δ' | .bk δ' => QO (.nx δ') | .rt d => QO (.rt d) | .ex c δ' => QO (.ex c δ')) (he : ∀ δ, I xs δ → QO (.nx δ)) :
    ∀ {post pre : List α} {s : SS}, xs = pre ++ post → I pre s → hol (forD2 i j b (post.map fun z => .tup [ea z, eb z]) s) QO
  | [], pre, s, e, h => ⟨_, rfl, he s (by rw [e, List.append_nil]; exact h)⟩
  | x :: post, pre, s, e, h => by
    obtain ⟨o, eo, q⟩ := hs pre x post e s h
    rw [List.map_cons]
    unfold forD2
    show hol ((b ((s.set i (some (.sh (ea x)))).set j (some (.sh (eb x))))).bind _) QO
    rw [eo]
    have e3 : xs = (pre ++ [x]) ++ post := by rw [e]; simp
    cases o with
    | nx s1 => exact for_zip I hs he e3 q
    | ct s1 => exact for_zip I hs he e3 q
    | bk s1 => exact ⟨_, rfl, q⟩
    | rt d => exact ⟨_, rfl, q⟩
    | ex c s1 => exact ⟨_, rfl, q⟩
theorem zip_v {v : Nat → Int} : ∀ {S : List Nat}, zipL (S.map nD) ((S.map v).map .int) = S.map fun t => .tup [nD t, .int (v t)]
  | [] => rfl
  | t :: r => by
    show D.tup [nD t, .int (v t)] :: zipL (r.map nD) ((r.map v).map .int) = _
    rw [zip_v]
    rfl
def spread (m : Nat) (S : List Nat) (f : Nat → Int) : List Int := (List.range m).map fun t => if S.contains t = true then f t else 0
theorem spread_len {m : Nat} {S : List Nat} {f : Nat → Int} : (spread m S f).length = m := by simp [spread]
theorem spread_at {m : Nat} {S : List Nat} {f : Nat → Int} {t : Nat} (h : t < m) : (spread m S f).getD t 0 = if S.contains t = true then f t else 0 := by
  unfold spread
  simp [List.getD, List.getElem?_eq_getElem, h]
theorem spread_el {m : Nat} {S : List Nat} {f : Nat → Int} {t : Nat} (h : t < (spread m S f).length) : (spread m S f)[t] = if S.contains t = true then f t else 0 := by
  have e := spread_at (m := m) (S := S) (f := f) (t := t) (by rw [spread_len] at h; exact h)
  rw [List.getD_eq_getElem?_getD, List.getElem?_eq_getElem h] at e
  exact e
theorem spread_set {m : Nat} {S : List Nat} {f : Nat → Int} {t : Nat} : (spread m S f).set t (f t) = spread m (S ++ [t]) f := by
  apply List.ext_getElem
  · rw [List.length_set, spread_len, spread_len]
  · intro i h1 h2
    rw [List.getElem_set, spread_el h2]
    by_cases h : t = i
    · subst h
      rw [if_pos rfl, if_pos (by simp)]
    · rw [if_neg h, spread_el]
      have e : (S ++ [t]).contains i = S.contains i := by
        simp
        exact fun z => absurd z.symm h
      rw [e]
theorem spread_nil {m : Nat} {f : Nat → Int} : spread m [] f = List.replicate m 0 := by
  apply List.ext_getElem
  · rw [spread_len, List.length_replicate]
  · intro i h1 h2
    rw [spread_el, List.getElem_replicate]
    rfl
theorem st_intW {o : List Int} {k : Nat} {x : Int} (h : k < o.length) : st0V (some (inD' o)) (some (.int (k : Int))) (some (.int x)) = some (inD' (o.set k x)) := by
  show (ixN (o.map D.int).length (k : Int)).map (fun j => D.lst ((o.map D.int).set j (.int x))) = _
  rw [ixN_of (by simpa using h), Option.map_some, ← List.map_set]
  rfl
/-- the divisor, with the sign of the first number -/
def dvS (T : List (List Bool)) (m : Nat) (S : List Nat) : Int := if vt (sk2 T m) S (S.getD 0 0) < 0 then -((gcL (S.map (vt (sk2 T m) S)) : Nat) : Int) else ((gcL (S.map (vt (sk2 T m) S)) : Nat) : Int)
def wtS (T : List (List Bool)) (m : Nat) (S : List Nat) : List Int := spread m S fun t => (vt (sk2 T m) S t).fdiv (dvS T m S)
structure Od (m : Nat) (S : List Nat) : Prop where
  nd : S.Nodup
  lt : ∀ x ∈ S, x < m
  odd : S.length % 2 = 1
theorem Od.half {m : Nat} {S : List Nat} (O : Od m S) (hm : m ≤ 8) : ∃ c, S.length = 2 * c + 1 ∧ c ≤ 3 := ⟨S.length / 2, by have := O.odd; omega, by have := nd_len O.nd O.lt; have := O.odd; omega⟩
theorem Od.v {T : List (List Bool)} {m : Nat} (F : Full m T) (hm : m ≤ 8) {S : List Nat} (O : Od m S) {t : Nat} (ht : t ∈ S) : vt (sk2 T m) S t % 2 = 1 ∧ (vt (sk2 T m) S t).natAbs ≤ 15 := by
  obtain ⟨c, h1, h2⟩ := O.half hm
  exact vt_of F O.nd O.lt h1 h2 ht
theorem Od.first {m : Nat} {S : List Nat} (O : Od m S) : S.getD 0 0 ∈ S := by
  have h : 0 < S.length := by have := O.odd; omega
  rw [List.getD_eq_getElem?_getD, List.getElem?_eq_getElem h]
  exact List.getElem_mem h
theorem Od.gc {T : List (List Bool)} {m : Nat} (F : Full m T) (hm : m ≤ 8) {S : List Nat} (O : Od m S) : 0 < gcL (S.map (vt (sk2 T m) S)) ∧ gcL (S.map (vt (sk2 T m) S)) ≤ 15 := by
  have hd := gc_dvd (vs := S.map (vt (sk2 T m) S)) _ (List.mem_map.mpr ⟨_, O.first, rfl⟩)
  have hv := O.v F hm O.first
  have hp : 0 < (vt (sk2 T m) S (S.getD 0 0)).natAbs := by omega
  exact ⟨Nat.pos_of_dvd_of_pos hd hp, Nat.le_trans (Nat.le_of_dvd hp hd) hv.2⟩
theorem wton_eq {T : List (List Bool)} {m : Nat} (F : Full m T) (hm : m ≤ 8) {S : List Nat} (O : Od m S) : m_weights_on [tabD T, thD S] = some (inD' (wtS T m S)) := by
  refine run_of rfl ?_
  obtain ⟨c, hl, hc⟩ := O.half hm
  have pt := part_eq F.sq (th := S) (by omega) O.lt
  have ke := kernel_eq (sq_grid (th := S) (f := at2 T)) hl hc
  rw [hl] at ke
  have kp := ker_part F O.nd O.lt hl hc
  rw [hl] at kp
  rw [kp] at ke
  obtain ⟨v, hv⟩ : ∃ v, v = vt (sk2 T m) S := ⟨_, rfl⟩
  have bd : ∀ t ∈ S, (v t).natAbs ≤ 15 := fun t ht => by rw [hv]; exact (O.v F hm ht).2
  have gp := O.gc F hm
  have cm := common_eq (vs := S.map v) fun x hx => by
    obtain ⟨t, ht, rfl⟩ := List.mem_map.mp hx
    have := bd t ht
    omega
  have i0 : ixD (inD' (S.map v)) (.int 0) = some (.int (v (S.getD 0 0))) := by
    have := ix_in (ws := S.map v) (k := 0) (by rw [List.length_map]; omega)
    have e : (S.map v).getD 0 0 = v (S.getD 0 0) := by
      have h0 : 0 < S.length := by omega
      simp [List.getD, List.getElem?_eq_getElem h0]
    rw [e] at this
    exact this
  obtain ⟨g, hg⟩ : ∃ g, g = gcL (S.map v) := ⟨_, rfl⟩
  rw [← hv] at ke gp
  rw [← hg] at cm gp
  have hdv : dvS T m S = if v (S.getD 0 0) < 0 then -((g : Nat) : Int) else ((g : Nat) : Int) := by unfold dvS; rw [← hv, ← hg]
  obtain ⟨d, hd⟩ : ∃ d, d = dvS T m S := ⟨_, rfl⟩
  rw [← hd] at hdv
  have rp : repO (some (.lst [.int 0])) (some (.int (m : Int))) = some ((List.replicate m (0 : Int)).map .int) := by rw [eo_repN (by omega), List.map_replicate]
  have hw : wtS T m S = spread m S fun t => (v t).fdiv d := by unfold wtS; rw [← hv, ← hd]
  rw [hw]
  simp! only [g_weights_on, pt, ke, cm, i0]
  refine hol_bindO (I := fun s => s = [some (.sh (tabD T)), some (.sh (thD S)), some (.sh (inD' (S.map v))), some (.sh (.int d)), none, none, none]) ?_ ?_
  · by_cases h : v (S.getD 0 0) < 0
    · rw [decide_eq_true h]
      simp! only [hol_some]
      refine ⟨_, rfl, ?_⟩
      rw [hdv, if_pos h]
    · rw [decide_eq_false h]
      simp! only [hol_some]
      refine ⟨_, rfl, ?_⟩
      rw [hdv, if_neg h]
  · rintro s rfl
    have fl : flatO (some ((List.replicate m (0 : Int)).map D.int)) = some ((List.replicate m (0 : Int)).map D.int) := eo_flat (imms_int _)
    have zp : zpO (some (thD S)) (some (inD' (S.map v))) = some (S.map fun t => .tup [nD t, .int (v t)]) := by
      show some (zipL (S.map nD) ((S.map v).map .int)) = _
      rw [zip_v]
    have li : D.lst ((List.replicate m (0 : Int)).map .int) = inD' (spread m [] fun t => (v t).fdiv d) := by rw [spread_nil]; rfl
    simp! only [len_tab, F.sq.1, rp, fl, li, ev_zip, zp]
    refine hol_bindO (I := fun s => ∃ o5 o6, s = [some (.sh (tabD T)), some (.sh (thD S)), some (.sh (inD' (S.map v))), some (.sh (.int d)), some (.ow (inD' (spread m S fun t => (v t).fdiv d))), o5, o6]) ?_ ?_
    · refine for_zip (ea := nD) (eb := fun t => .int (v t)) (fun pre s => ∃ o5 o6, s = [some (.sh (tabD T)), some (.sh (thD S)), some (.sh (inD' (S.map v))), some (.sh (.int d)), some (.ow (inD' (spread m pre fun t => (v t).fdiv d))), o5, o6]) ?_ (fun s z => ⟨s, rfl, z⟩) (pre := []) rfl ⟨_, _, rfl⟩
      rintro pre t post e s ⟨o5, o6, rfl⟩
      have ht : t ∈ S := by rw [← List.nil_append S, e]; simp
      have dn : divN (.int (v t)) (.int d) = some (.int ((v t).fdiv d)) := by
        refine if_pos ⟨?_, ?_⟩
        · rw [hdv]; split <;> omega
        · rw [hdv]; split <;> omega
      simp! only [nD, dn, st_intW (show t < (spread m pre fun t => (v t).fdiv d).length by rw [spread_len]; exact O.lt t ht), spread_set (f := fun t => (v t).fdiv d), hol_some]
      exact ⟨_, _, rfl⟩
    · rintro s ⟨o5, o6, rfl⟩
      simp! only [hol_some]

theorem bst_min {ns : List Int} : ∀ {k i : Nat}, i ≤ k → ns.getD (bst ns k) 0 ≤ ns.getD i 0
  | 0, i, h => by
    have : i = 0 := by omega
    subst this
    exact Int.le_refl _
  | k + 1, i, h => by
    unfold bst
    by_cases hc : ns.getD (k + 1) 0 < ns.getD (bst ns k) 0
    · rw [if_pos (decide_eq_true hc)]
      by_cases hi : i = k + 1
      · rw [hi]; exact Int.le_refl _
      · have := bst_min (ns := ns) (k := k) (i := i) (by omega)
        omega
    · rw [if_neg (by simpa using hc)]
      by_cases hi : i = k + 1
      · rw [hi]; omega
      · exact bst_min (by omega)
theorem bst_lt {ns : List Int} : ∀ k, bst ns k ≤ k
  | 0 => Nat.le_refl 0
  | k + 1 => by
    unfold bst
    split
    · exact Nat.le_refl _
    · have := bst_lt (ns := ns) k; omega
theorem bstX_max {ns : List Int} : ∀ {k i : Nat}, i ≤ k → ns.getD i 0 ≤ ns.getD (bstX ns k) 0
  | 0, i, h => by
    have : i = 0 := by omega
    subst this
    exact Int.le_refl _
  | k + 1, i, h => by
    unfold bstX
    by_cases hc : ns.getD (k + 1) 0 > ns.getD (bstX ns k) 0
    · rw [if_pos (decide_eq_true hc)]
      by_cases hi : i = k + 1
      · rw [hi]; exact Int.le_refl _
      · have := bstX_max (ns := ns) (k := k) (i := i) (by omega)
        omega
    · rw [if_neg (by simpa using hc)]
      by_cases hi : i = k + 1
      · rw [hi]; omega
      · exact bstX_max (by omega)
theorem bstX_lt {ns : List Int} : ∀ k, bstX ns k ≤ k
  | 0 => Nat.le_refl 0
  | k + 1 => by
    unfold bstX
    split
    · exact Nat.le_refl _
    · have := bstX_lt (ns := ns) k; omega
theorem getD_in {ns : List Int} {k : Nat} (h : k < ns.length) : ns.getD k 0 ∈ ns := by
  rw [List.getD_eq_getElem?_getD, List.getElem?_eq_getElem h]
  exact List.getElem_mem h
theorem mn_mem {ns : List Int} (h : ns ≠ []) : mnI ns ∈ ns ∧ ∀ x ∈ ns, mnI ns ≤ x := by
  have hp := List.length_pos_iff.mpr h
  refine ⟨getD_in (by have := bst_lt (ns := ns) (ns.length - 1); omega), fun x hx => ?_⟩
  obtain ⟨i, hi, rfl⟩ := List.mem_iff_getElem.mp hx
  have h1 := bst_min (ns := ns) (k := ns.length - 1) (i := i) (by omega)
  have e : ns.getD i 0 = ns[i] := by rw [List.getD_eq_getElem?_getD, List.getElem?_eq_getElem hi]; rfl
  unfold mnI
  omega
theorem mx_mem {ns : List Int} (h : ns ≠ []) : mxI ns ∈ ns ∧ ∀ x ∈ ns, x ≤ mxI ns := by
  have hp := List.length_pos_iff.mpr h
  refine ⟨getD_in (by have := bstX_lt (ns := ns) (ns.length - 1); omega), fun x hx => ?_⟩
  obtain ⟨i, hi, rfl⟩ := List.mem_iff_getElem.mp hx
  have h1 := bstX_max (ns := ns) (k := ns.length - 1) (i := i) (by omega)
  have e : ns.getD i 0 = ns[i] := by rw [List.getD_eq_getElem?_getD, List.getElem?_eq_getElem hi]; rfl
  unfold mxI
  omega

/-! even weights, as the program looks -/
def evA (T : List (List Bool)) (m : Nat) (ws : List Int) (t : Nat) : Bool := if 0 < ws.getD t 0 then decide (scr T ws m t = 0) else decide (scr T ws m t < 0)
def evB (T : List (List Bool)) (m : Nat) (ws : List Int) : Bool := !(decide (mnI ws < 0) || decide (mxI ws = 0)) && (List.range m).all fun t => evA T m ws t
theorem evat_eq {m : Nat} {T : List (List Bool)} (sq : Sq m T) (hm : m ≤ 1000) {ws : List Int} (hw : ws.length = m) {t : Nat} (ht : t < m) : m_is_even_at [tabD T, inD' ws, .int (t : Int)] = some (.bl (evA T m ws t)) := by
  refine run_of rfl ?_
  have ix := ix_in (ws := ws) (k := t) (by omega)
  have sc := score_eq sq hm hw ht
  unfold evA
  by_cases h : 0 < ws.getD t 0
  · have h' : decide (ws.getD t 0 > 0) = true := decide_eq_true h
    rw [if_pos h]
    simp_all! only [g_is_even_at, ix, h', sc, hol_some]
  · have h' : decide (ws.getD t 0 > 0) = false := decide_eq_false h
    rw [if_neg h]
    simp_all! only [g_is_even_at, ix, h', sc, hol_some]
theorem iseven_eq {m : Nat} {T : List (List Bool)} (sq : Sq m T) (h0 : 0 < m) (hm : m ≤ 1000) {ws : List Int} (hw : ws.length = m) : m_is_even [tabD T, inD' ws] = some (.bl (evB T m ws)) := by
  refine run_of rfl ?_
  have hne : ws ≠ [] := fun z => by rw [z] at hw; simp at hw; omega
  unfold evB
  have cx : compX (some (rngL 0 m)) (compF dYes (dCall m_is_even_at [dVar 0, dVar 1, dVar 2]) [some (tabD T), some (inD' ws)]) = some (((List.range m).map fun t => evA T m ws t).map bD) := by
    rw [rng_nat, List.map_map]
    exact cx_all (fun t => bD (evA T m ws t)) (by simp; omega) fun t ht => by simp! only [nD, evat_eq sq hm hw (List.mem_range.mp ht), bD]
  simp! only [g_is_even, min_in hne, max_in hne]
  cases h : (decide (mnI ws < 0) || decide (mxI ws = 0)) with
  | true => simp_all! only [hol_some]
  | false =>
    simp_all! only [len_tab, sq.1, rng1_nat (show m ≤ 1000000 by omega), cx, ea_all, hol_some]
    rw [List.all_map]
    rfl
theorem ev_iff {m : Nat} {T : List (List Bool)} {ws : List Int} (h0 : 0 < m) (hw : ws.length = m) : evB T m ws = true ↔ (∀ t, t < m → 0 ≤ ws.getD t 0) ∧ (∃ t, t < m ∧ 0 < ws.getD t 0) ∧ (∀ t, t < m → 0 < ws.getD t 0 → scr T ws m t = 0) ∧ ∀ t, t < m → ¬ 0 < ws.getD t 0 → scr T ws m t < 0 := by
  have hne : ws ≠ [] := fun z => by rw [z] at hw; simp at hw; omega
  obtain ⟨n1, n2⟩ := mn_mem hne
  obtain ⟨x1, x2⟩ := mx_mem hne
  have hel : ∀ x, x ∈ ws ↔ ∃ t, t < m ∧ ws.getD t 0 = x := fun x => by
    rw [List.mem_iff_getElem]
    constructor
    · rintro ⟨i, hi, rfl⟩
      exact ⟨i, by omega, by simp [List.getD, List.getElem?_eq_getElem hi]⟩
    · rintro ⟨t, ht, rfl⟩
      exact ⟨t, by omega, by simp [List.getD, List.getElem?_eq_getElem (show t < ws.length by omega)]⟩
  unfold evB
  rw [Bool.and_eq_true, Bool.not_eq_true', Bool.or_eq_false_iff, decide_eq_false_iff_not, decide_eq_false_iff_not, List.all_eq_true]
  constructor
  · rintro ⟨⟨h1, h2⟩, h3⟩
    have nn : ∀ t, t < m → 0 ≤ ws.getD t 0 := fun t ht => by
      have := n2 _ ((hel _).mpr ⟨t, ht, rfl⟩)
      omega
    refine ⟨nn, ?_, fun t ht hp => ?_, fun t ht hp => ?_⟩
    · obtain ⟨t, ht, e⟩ := (hel _).mp x1
      have := nn t ht
      exact ⟨t, ht, by omega⟩
    · have := h3 t (List.mem_range.mpr ht)
      unfold evA at this
      rw [if_pos hp] at this
      exact of_decide_eq_true this
    · have := h3 t (List.mem_range.mpr ht)
      unfold evA at this
      rw [if_neg hp] at this
      exact of_decide_eq_true this
  · rintro ⟨nn, ⟨p, hp, hpp⟩, h3, h4⟩
    refine ⟨⟨?_, ?_⟩, fun t ht => ?_⟩
    · obtain ⟨t, ht, e⟩ := (hel _).mp n1
      have := nn t ht
      omega
    · have := x2 _ ((hel _).mpr ⟨p, hp, rfl⟩)
      omega
    · have ht := List.mem_range.mp ht
      unfold evA
      by_cases h : 0 < ws.getD t 0
      · rw [if_pos h]
        exact decide_eq_true (h3 t ht h)
      · rw [if_neg h]
        exact decide_eq_true (h4 t ht h)

/-! all picks of things, each in their order; the odd ones -/
def pkL (L : List Nat) : List (List Nat) := L.foldl (fun P t => P ++ P.map (· ++ [t])) [[]]
theorem pk_snoc {L : List Nat} {t : Nat} : pkL (L ++ [t]) = pkL L ++ (pkL L).map (· ++ [t]) := by
  unfold pkL
  rw [List.foldl_append]
  rfl
theorem pk_len : ∀ (r : List Nat), (pkL r.reverse).length = 2 ^ r.length
  | [] => rfl
  | t :: r => by
    rw [List.reverse_cons, pk_snoc, List.length_append, List.length_map, pk_len r, List.length_cons, Nat.pow_succ]
    omega
theorem pk_sub : ∀ (r : List Nat), ∀ S ∈ pkL r.reverse, S.Sublist r.reverse ∧ S.length ≤ r.length
  | [], S, h => by
    rw [List.mem_singleton.mp h]
    exact ⟨.slnil, Nat.le_refl _⟩
  | t :: r, S, h => by
    rw [List.reverse_cons, pk_snoc, List.mem_append] at h
    rw [List.reverse_cons]
    rcases h with h | h
    · obtain ⟨h1, h2⟩ := pk_sub r S h
      exact ⟨h1.trans (List.sublist_append_left _ _), by rw [List.length_cons]; omega⟩
    · obtain ⟨S', h', rfl⟩ := List.mem_map.mp h
      obtain ⟨h1, h2⟩ := pk_sub r S' h'
      exact ⟨h1.append (List.Sublist.refl _), by rw [List.length_append]; show S'.length + 1 ≤ r.length + 1; omega⟩
theorem pk_has {p : Nat → Bool} : ∀ (r : List Nat), r.reverse.filter p ∈ pkL r.reverse
  | [] => List.mem_cons_self
  | t :: r => by
    rw [List.reverse_cons, pk_snoc, List.filter_append, List.mem_append]
    have ih := pk_has (p := p) r
    cases h : p t with
    | true =>
      right
      have e : [t].filter p = [t] := by simp [h]
      rw [e]
      exact List.mem_map.mpr ⟨_, ih, rfl⟩
    | false =>
      left
      have e : [t].filter p = [] := by simp [h]
      rw [e, List.append_nil]
      exact ih
def opB (S : List Nat) : Bool := decide (((S.length : Int)) % 2 = 1)
theorem picks_eq {L : List Nat} (hl : L.length ≤ 8) : m_odd_picks [thD L] = some (.lst (((pkL L).filter opB).map thD)) := by
  refine run_of rfl ?_
  have hlen : ∀ pre post : List Nat, L = pre ++ post → (pkL pre).length ≤ 256 ∧ ∀ S ∈ pkL pre, S.length ≤ 8 := fun pre post e => by
    have h1 := pk_len pre.reverse
    have h2 := pk_sub pre.reverse
    rw [List.reverse_reverse, List.length_reverse] at h1 h2
    have h3 : pre.length ≤ 8 := by rw [e, List.length_append] at hl; omega
    refine ⟨?_, fun S hS => by have := (h2 S hS).2; omega⟩
    rw [h1]
    exact Nat.pow_le_pow_right (n := 2) (by omega) h3
  have sqp : ∀ P : List (List Nat), seqD (.lst (P.map thD)) = some (P.map thD) := fun _ => rfl
  have fn : flatO (some []) = some [] := rfl
  have st : (D.lst [D.lst []]) = .lst ((pkL []).map thD) := rfl
  simp! only [g_odd_picks, fn, st, seq_th]
  refine hol_bindO (I := fun s => ∃ o2, s = [some (.sh (thD L)), some (.sh (.lst ((pkL L).map thD))), o2]) (for_map (enc := nD) (xs := L) (fun pre s => ∃ o2, s = [some (.sh (thD L)), some (.sh (.lst ((pkL pre).map thD))), o2]) ⟨_, rfl⟩ ?_ fun s z => ⟨s, rfl, z⟩) ?_
  · rintro pre t post e s ⟨o2, rfl⟩
    obtain ⟨b1, b2⟩ := hlen pre (t :: post) e
    have cx : compX (some ((pkL pre).map thD)) (compF dYes (mkFlat (dCat (dVar 3) (mkL (dArgs [dVar 2])))) [some (thD L), some (.lst ((pkL pre).map thD)), some (nD t)]) = some (((pkL pre).map (· ++ [t])).map thD) := by
      rw [List.map_map]
      refine cx_all (enc := thD) (xs := pkL pre) (fun S => thD (S ++ [t])) (by omega) fun S hS => ?_
      have c1 : catO (some (thD S)) (some (.lst [nD t])) = some ((S ++ [t]).map nD) := cat_th (a := S) (b := [t]) (by have := b2 S hS; show S.length + 1 ≤ _; omega)
      simp! only [c1, flat_th, th_lst]
    have c2 : catO (some (.lst ((pkL pre).map thD))) (some (.lst (((pkL pre).map (· ++ [t])).map thD))) = some ((pkL (pre ++ [t])).map thD) := by
      rw [pk_snoc, eo_cat (by simp only [List.length_map]; omega), List.map_append]
    simp! only [sqp, cx, c2, hol_some]
    exact ⟨_, rfl⟩
  · rintro s ⟨o2, rfl⟩
    obtain ⟨b1, b2⟩ := hlen L [] (by simp)
    have cx : ∀ o : Option D, compX (some ((pkL L).map thD)) (compF (dTest (d2 eqD (d2 modI (dCall lenF [dVar 3]) (dC (.int 2))) (dC (.int 1)))) (dVar 3) [some (thD L), some (.lst ((pkL L).map thD)), o]) = some (((pkL L).filter opB).map thD) := fun o => by
      refine cx_of (enc := thD) (xs := pkL L) opB thD (by omega) (fun S hS => ?_) fun S hS _ => by simp! only []
      have md : modI (.int (S.length : Int)) (.int 2) = some (.int ((S.length : Int) % 2)) := ea_mod (by omega)
      simp! only [len_th, md]
      rfl
    simp! only [sqp, cx, hol_some]

theorem beatsall_eq {m : Nat} {T : List (List Bool)} (sq : Sq m T) {a : Nat} (ha : a < m) {th : List Nat} (hl : th.length ≤ 1000) (h : ∀ x ∈ th, x < m) : m_beats_all [tabD T, .int (a : Int), thD th] = some (.bl (th.all fun j => at2 T a j)) := by
  refine run_of rfl ?_
  simp! only [g_beats_all, seq_th]
  rw [cx_all (fun j => bD (at2 T a j)) hl fun j hj => by simp! only [nD, ix2 sq ha (h j hj), bD]]
  have e : (th.map fun j => bD (at2 T a j)) = (th.map fun j => at2 T a j).map bD := by rw [List.map_map]; rfl
  have e2 : ((th.map fun j => at2 T a j).all fun b => b) = th.all fun j => at2 T a j := by rw [List.all_map]; rfl
  simp! only [e, ea_all, e2, hol_some]

def covB (T : List (List Bool)) (m a b : Nat) : Bool := at2 T a b && ((List.range m).filter fun j => at2 T b j).all fun j => at2 T a j

theorem covers_eq {m : Nat} {T : List (List Bool)} (sq : Sq m T) (hm : m ≤ 1000) {a b : Nat} (ha : a < m) (hb : b < m) : m_covers [tabD T, .int (a : Int), .int (b : Int)] = some (.bl (covB T m a b)) := by
  refine run_of rfl ?_
  have hl : ((List.range m).filter fun j => at2 T b j).length ≤ 1000 := by
    have := List.length_filter_le (fun j => at2 T b j) (List.range m)
    rw [List.length_range] at this
    omega
  have b1 := beaten_eq sq hm hb
  have b2 := beatsall_eq sq ha (th := (List.range m).filter fun j => at2 T b j) hl fun x hx => List.mem_range.mp (List.mem_filter.mp hx).1
  simp! only [g_covers, ix2 sq ha hb, b1, b2, hol_some]
  rfl

def uncB (T : List (List Bool)) (m a : Nat) : Bool := !(List.range m).any fun b => covB T m b a
def uncL (T : List (List Bool)) (m : Nat) : List Nat := (List.range m).filter fun a => uncB T m a
theorem iscovered_eq {m : Nat} {T : List (List Bool)} (sq : Sq m T) (hm : m ≤ 1000) {a : Nat} (ha : a < m) : m_is_covered [tabD T, .int (a : Int)] = some (.bl ((List.range m).any fun b => covB T m b a)) := by
  refine run_of rfl ?_
  have hr : rng1 (some (.int (m : Int))) = some (rngL 0 m) := by rw [eo_rng1 (by omega)]; rfl
  simp! only [g_is_covered, len_tab, sq.1, hr, rng_nat]
  rw [cx_all (fun b => bD (covB T m b a)) (by simp; omega) fun j hj => by simp! only [nD, covers_eq sq hm (List.mem_range.mp hj) ha, bD]]
  have e : ((List.range m).map fun b => bD (covB T m b a)) = ((List.range m).map fun b => covB T m b a).map bD := by rw [List.map_map]; rfl
  have e2 : (((List.range m).map fun b => covB T m b a).any fun b => b) = (List.range m).any fun b => covB T m b a := by rw [List.any_map]; rfl
  simp! only [e, ea_any, e2, hol_some]
theorem uncovered_eq {m : Nat} {T : List (List Bool)} (sq : Sq m T) (hm : m ≤ 1000) : m_uncovered [tabD T] = some (thD (uncL T m)) := by
  refine run_of rfl ?_
  have hr : rng1 (some (.int (m : Int))) = some (rngL 0 m) := by rw [eo_rng1 (by omega)]; rfl
  simp! only [g_uncovered, len_tab, sq.1, hr, rng_nat]
  rw [cx_of (fun a => uncB T m a) nD (by simp; omega) (fun j hj => by simp! only [nD, iscovered_eq sq hm (List.mem_range.mp hj)]; rfl) fun j hj _ => by simp! only []]
  have f1 := eo_flat (imms_n (uncL T m))
  unfold uncL at f1
  simp! only [f1, hol_some]
  rfl

/-! the even weighing is found -/
theorem fd_of {v d : Int} (hd : d ≠ 0) (h : d ∣ v) : v = d * v.fdiv d := by
  obtain ⟨k, rfl⟩ := h
  rw [Int.mul_fdiv_cancel_left _ hd]
section
variable {T : List (List Bool)} {m : Nat} {S : List Nat}
theorem Od.d (F : Full m T) (hm : m ≤ 8) (O : Od m S) : dvS T m S ≠ 0 ∧ ∀ t ∈ S, vt (sk2 T m) S t = dvS T m S * (wtS T m S).getD t 0 := by
  have gp := O.gc F hm
  have hne : dvS T m S ≠ 0 := by unfold dvS; split <;> omega
  refine ⟨hne, fun t ht => ?_⟩
  have hdv : dvS T m S ∣ vt (sk2 T m) S t := by
    have h1 := gc_dvd (vs := S.map (vt (sk2 T m) S)) _ (List.mem_map.mpr ⟨t, ht, rfl⟩)
    have h2 : ((gcL (S.map (vt (sk2 T m) S)) : Nat) : Int) ∣ vt (sk2 T m) S t := Int.ofNat_dvd_left.mpr h1
    unfold dvS
    split
    · exact Int.neg_dvd.mpr h2
    · exact h2
  unfold wtS
  rw [spread_at (O.lt t ht), if_pos (List.contains_iff_mem.mpr ht)]
  exact fd_of hne hdv
theorem wt_out {t : Nat} (ht : t < m) (hn : t ∉ S) : (wtS T m S).getD t 0 = 0 := by
  unfold wtS
  rw [spread_at ht, if_neg (by rw [List.contains_iff_mem]; exact hn)]
theorem wt_len : (wtS T m S).length = m := by unfold wtS; exact spread_len
/-- the score by the weights, times the divisor, is the one by the kernel -/
theorem sc_ker (F : Full m T) (hm : m ≤ 8) (O : Od m S) {i : Nat} (hi : i < m) : dvS T m S * scr T (wtS T m S) m i = lsum S fun t => sk2 T m i t * vt (sk2 T m) S t := by
  rw [scr_sum hi (Nat.le_refl _)]
  have e1 : ((List.range m).map fun j => sk2 T m i j * (wtS T m S).getD j 0).sum = lsum ((List.range m).filter fun t => S.contains t) fun j => sk2 T m i j * (wtS T m S).getD j 0 := by
    refine (ls_filter (L := List.range m) fun t ht hp => ?_).symm
    have hn : t ∉ S := fun z => by rw [List.contains_iff_mem.mpr z] at hp; cases hp
    rw [wt_out (List.mem_range.mp ht) hn, Int.mul_zero]
  have pm : ((List.range m).filter fun t => S.contains t).Perm S := (List.perm_ext_iff_of_nodup (List.nodup_range.filter _) O.nd).mpr fun t => by
    rw [List.mem_filter, List.mem_range, List.contains_iff_mem]
    exact ⟨fun h => h.2, fun h => ⟨O.lt t h, h⟩⟩
  rw [e1, ls_perm pm, ← ls_mul]
  refine ls_congr fun t ht => ?_
  rw [(O.d F hm).2 t ht]
  ac_rfl
theorem unc_of (F : Full m T) {x : Vc} (E : Ev (sk2 T m) m x) {t : Nat} (ht : t ∈ supp m x) : uncB T m t = true := by
  unfold uncB
  rw [Bool.not_eq_true', List.any_eq_false]
  intro y hy hc
  have hy := List.mem_range.mp hy
  have htm := supp_lt t ht
  have hp := supp_pos t ht
  unfold covB at hc
  rw [Bool.and_eq_true, List.all_eq_true] at hc
  obtain ⟨c1, c2⟩ := hc
  have hyt : y ≠ t := fun z => by rw [z, F.own t htm] at c1; cases c1
  have h1 := E.eq t htm hp
  have h2 := E.le y hy
  have hs : ∀ j, j < m → sk2 T m t j ≤ sk2 T m y j := fun j hj => by
    unfold sk2
    rw [if_pos (show t < m ∧ j < m from ⟨htm, hj⟩), if_pos (show y < m ∧ j < m from ⟨hy, hj⟩)]
    cases h3 : at2 T t j with
    | true =>
      have h4 := c2 j (List.mem_filter.mpr ⟨List.mem_range.mpr hj, h3⟩)
      have hjt : j ≠ t := fun z => by rw [z, F.own t htm] at h3; cases h3
      have hjy : j ≠ y := fun z => by rw [z, F.own y hy] at h4; cases h4
      have h5 := F.two t htm j hj (Ne.symm hjt)
      have h6 := F.two y hy j hj (Ne.symm hjy)
      rw [h3] at h5
      rw [h4] at h6
      have h5 : at2 T j t = false := by cases z : at2 T j t <;> rw [z] at h5 <;> first | rfl | cases h5
      have h6 : at2 T j y = false := by cases z : at2 T j y <;> rw [z] at h6 <;> first | rfl | cases h6
      rw [h4, h5, h6]
      decide
    | false =>
      by_cases hjt : j = t
      · subst hjt
        have := F.two y hy j hj hyt
        rw [c1] at this
        have h6 : at2 T j y = false := by cases z : at2 T j y <;> rw [z] at this <;> first | rfl | cases this
        rw [F.own j hj, c1, h6]
        decide
      · have h5 := F.two t htm j hj (Ne.symm hjt)
        rw [h3] at h5
        have h5 : at2 T j t = true := by cases z : at2 T j t <;> rw [z] at h5 <;> first | rfl | cases h5
        rw [h5]
        cases at2 T y j <;> cases at2 T j y <;> decide
  have ht1 : sk2 T m t t = 0 := by
    unfold sk2
    rw [if_pos (show t < m ∧ t < m from ⟨htm, htm⟩), F.own t htm]
    rfl
  have hy1 : sk2 T m y t = 1 := by
    unfold sk2
    have := F.two y hy t htm hyt
    rw [c1] at this
    have h6 : at2 T t y = false := by cases z : at2 T t y <;> rw [z] at this <;> first | rfl | cases this
    rw [if_pos (show y < m ∧ t < m from ⟨hy, htm⟩), c1, h6]
    rfl
  have h7 := dot_nn (n := m) (y := x) (a := fun j => sk2 T m y j + -1 * sk2 T m t j) fun j hj => Int.mul_nonneg (E.nn j) (by have := hs j hj; omega)
  rw [dot_add (u := sk2 T m y) (v := fun j => -1 * sk2 T m t j), dot_mul (u := sk2 T m t), h1] at h7
  have h8 := h7.2 t htm
  rw [ht1, hy1] at h8
  omega
theorem some_even (F : Full m T) (h0 : 0 < m) (hm : m ≤ 8) : ∃ S ∈ (pkL (uncL T m)).filter opB, evB T m (wtS T m S) = true := by
  obtain ⟨x, a1, a2, a3, a4⟩ := skew_some (s := sk2 T m) sk2_skew h0
  have E : Ev (sk2 T m) m x := ⟨a1, a2, a3, a4⟩
  have P := odd_pf F hm
  have od := ev_odd P E
  obtain ⟨ε, he, hs, ho⟩ := ev_ker P E
  have O : Od m (supp m x) := ⟨supp_nd, supp_lt, od⟩
  refine ⟨supp m x, List.mem_filter.mpr ⟨?_, decide_eq_true (by omega)⟩, ?_⟩
  · have e : supp m x = (uncL T m).filter fun i => decide (0 < x i) := by
      unfold supp uncL
      rw [List.filter_filter]
      refine List.filter_congr fun i hi => ?_
      by_cases h : 0 < x i
      · rw [decide_eq_true h, unc_of F E (List.mem_filter.mpr ⟨hi, decide_eq_true h⟩)]
        rfl
      · rw [decide_eq_false h]
        rfl
    rw [e]
    have := pk_has (p := fun i => decide (0 < x i)) (uncL T m).reverse
    rwa [List.reverse_reverse] at this
  · obtain ⟨S, hS⟩ : ∃ S, S = supp m x := ⟨_, rfl⟩
    rw [← hS] at hs ho O ⊢
    have gp := O.gc F hm
    have hf := hs _ O.first
    have hd : dvS T m S = ε * ((gcL (S.map (vt (sk2 T m) S)) : Nat) : Int) := by
      unfold dvS
      rcases he with rfl | rfl
      · rw [if_neg (by omega)]; omega
      · rw [if_pos (by omega)]; omega
    obtain ⟨g, hg⟩ : ∃ g, g = gcL (S.map (vt (sk2 T m) S)) := ⟨_, rfl⟩
    rw [← hg] at gp hd
    have ee : ε * ε = 1 := by rcases he with rfl | rfl <;> rfl
    have hw : ∀ t ∈ S, 0 < (wtS T m S).getD t 0 := fun t ht => by
      have h1 := hs t ht
      rw [(O.d F hm).2 t ht, hd] at h1
      have h2 : ε * (ε * (g : Int) * (wtS T m S).getD t 0) = (wtS T m S).getD t 0 * (g : Int) := by grind
      rw [h2] at h1
      exact Int.pos_of_mul_pos_left h1 (by omega)
    refine (ev_iff h0 wt_len).mpr ⟨fun t ht => ?_, ⟨_, O.lt _ O.first, hw _ O.first⟩, fun t ht hp => ?_, fun t ht hp => ?_⟩
    · by_cases h : t ∈ S
      · have := hw t h; omega
      · rw [wt_out ht h]; omega
    · have hin : t ∈ S := by
        by_cases h : t ∈ S
        · exact h
        · rw [wt_out ht h] at hp; omega
      have h1 := sc_ker F hm O ht
      rw [← ex_ls O.nd, ex_two sk2_skew hin] at h1
      exact (Int.mul_eq_zero.mp h1).resolve_left (O.d F hm).1
    · have hin : t ∉ S := fun h => hp (hw t h)
      have h1 := ho t ht hin
      rw [← sc_ker F hm O ht, hd] at h1
      have h2 : ε * (ε * (g : Int) * scr T (wtS T m S) m t) = (g : Int) * scr T (wtS T m S) m t := by grind
      rw [h2] at h1
      by_cases h : scr T (wtS T m S) m t < 0
      · exact h
      · have := Int.mul_nonneg (show 0 ≤ (g : Int) by omega) (show 0 ≤ scr T (wtS T m S) m t by omega)
        omega
theorem pick_od {S : List Nat} (h : S ∈ (pkL (uncL T m)).filter opB) : Od m S ∧ ∀ t ∈ S, uncB T m t = true := by
  obtain ⟨h1, h2⟩ := List.mem_filter.mp h
  have h3 := pk_sub (uncL T m).reverse S (by rw [List.reverse_reverse]; exact h1)
  rw [List.reverse_reverse] at h3
  have h2 : ((S.length : Int)) % 2 = 1 := of_decide_eq_true h2
  refine ⟨⟨(List.nodup_range.filter _).sublist h3.1, fun t ht => List.mem_range.mp (List.mem_filter.mp (h3.1.subset ht)).1, by omega⟩, fun t ht => (List.mem_filter.mp (h3.1.subset ht)).2⟩
theorem weighing_eq (F : Full m T) (h0 : 0 < m) (hm : m ≤ 8) : hol (m_weighing [tabD T]) fun d => ∃ S, Od m S ∧ (∀ t ∈ S, uncB T m t = true) ∧ evB T m (wtS T m S) = true ∧ d = inD' (wtS T m S) := by
  refine hol_run rfl ?_
  have ul : (uncL T m).length ≤ 8 := Nat.le_trans (List.length_filter_le ..) (by simpa using hm)
  have sqp : ∀ P : List (List Nat), seqD (.lst (P.map thD)) = some (P.map thD) := fun _ => rfl
  simp! only [g_weighing, uncovered_eq F.sq (show m ≤ 1000 by omega), picks_eq ul, sqp]
  refine for_map (enc := thD) (xs := (pkL (uncL T m)).filter opB) (fun pre s => (∃ o1 o2, s = [some (.sh (tabD T)), o1, o2]) ∧ ∀ S ∈ pre, evB T m (wtS T m S) = false) ⟨⟨_, _, rfl⟩, fun _ h => nomatch h⟩ ?_ ?_
  · rintro pre S post e s ⟨⟨o1, o2, rfl⟩, hn⟩
    have hS : S ∈ (pkL (uncL T m)).filter opB := by rw [e]; simp
    obtain ⟨O, hu⟩ := pick_od hS
    simp! only [wton_eq F hm O, iseven_eq F.sq h0 (show m ≤ 1000 by omega) (wt_len (T := T) (S := S))]
    cases hv : evB T m (wtS T m S) with
    | true =>
      simp! only [hol_some]
      exact ⟨_, rfl, S, O, hu, hv, rfl⟩
    | false =>
      simp! only [hol_some]
      refine ⟨⟨_, _, rfl⟩, fun S' h => ?_⟩
      rcases List.mem_append.mp h with h | h
      · exact hn S' h
      · rw [List.mem_singleton.mp h]
        exact hv
  · rintro s ⟨_, hn⟩
    obtain ⟨S, h1, h2⟩ := some_even F h0 hm
    rw [hn S h1] at h2
    cases h2
end

section
variable {T : List (List Bool)} {m : Nat} {S : List Nat}
theorem Od.wt (F : Full m T) (h0 : 0 < m) (hm : m ≤ 8) (O : Od m S) (he : evB T m (wtS T m S) = true) {t : Nat} (ht : t < m) : (t ∈ S → 0 < (wtS T m S).getD t 0 ∧ (wtS T m S).getD t 0 % 2 = 1) ∧ 0 ≤ (wtS T m S).getD t 0 ∧ (wtS T m S).getD t 0 ≤ 15 := by
  obtain ⟨e1, _⟩ := (ev_iff h0 wt_len).mp he
  have nn := e1 t ht
  by_cases h : t ∈ S
  · have hv := O.v F hm h
    obtain ⟨d1, d2⟩ := O.d F hm
    have d2 := d2 t h
    obtain ⟨w, hw⟩ : ∃ w, w = (wtS T m S).getD t 0 := ⟨_, rfl⟩
    obtain ⟨d, hd⟩ : ∃ d, d = dvS T m S := ⟨_, rfl⟩
    rw [← hw] at nn d2 ⊢
    rw [← hd] at d1 d2
    rw [d2] at hv
    have ho : w % 2 = 1 := by
      have h1 := hv.1
      rw [Int.mul_emod] at h1
      rcases Int.emod_two_eq w with z | z
      · rw [z, Int.mul_zero] at h1; cases h1
      · exact z
    have hb : w ≤ 15 := by
      have h2 := hv.2
      rw [Int.natAbs_mul] at h2
      have h3 : 1 * w.natAbs ≤ d.natAbs * w.natAbs := Nat.mul_le_mul_right _ (by omega)
      omega
    exact ⟨fun _ => ⟨by omega, ho⟩, nn, hb⟩
  · rw [wt_out ht h]
    exact ⟨fun z => absurd z h, by omega, by omega⟩
theorem gc_one (F : Full m T) (hm : m ≤ 8) (O : Od m S) : gcL (wtS T m S) = 1 := by
  have gp := O.gc F hm
  obtain ⟨d1, d2⟩ := O.d F hm
  have hd : (dvS T m S).natAbs = gcL (S.map (vt (sk2 T m) S)) := by unfold dvS; split <;> omega
  have h : gcL (wtS T m S) * gcL (S.map (vt (sk2 T m) S)) ∣ gcL (S.map (vt (sk2 T m) S)) := dvd_gc fun v hv => by
    obtain ⟨t, ht, rfl⟩ := List.mem_map.mp hv
    rw [d2 t ht, Int.natAbs_mul, hd, Nat.mul_comm]
    refine Nat.mul_dvd_mul_left _ (gc_dvd _ ?_)
    have hl : t < (wtS T m S).length := by rw [wt_len]; exact O.lt t ht
    rw [List.getD_eq_getElem?_getD, List.getElem?_eq_getElem hl]
    exact List.getElem_mem hl
  have h2 := Nat.le_of_dvd gp.1 h
  have h3 : 0 < gcL (wtS T m S) := by
    rcases Nat.eq_zero_or_pos (gcL (wtS T m S)) with z | z
    · rw [z, Nat.zero_mul] at h
      have := Nat.eq_zero_of_zero_dvd h
      omega
    · exact z
  rcases Nat.lt_or_ge 1 (gcL (wtS T m S)) with z | z
  · have := Nat.mul_le_mul_right (gcL (S.map (vt (sk2 T m) S))) (show 2 ≤ gcL (wtS T m S) from z)
    omega
  · omega
end

/-! the even weighing is one, up to a factor -/
theorem scr_dotv {T : List (List Bool)} {ws : List Int} {m i : Nat} (hi : i < m) : scr T ws m i = dotV m (fun j => ws.getD j 0) (sk2 T m i) := by
  rw [scr_sum hi (Nat.le_refl _), dot_ls]
  unfold lsum
  congr 1
  exact List.map_congr_left fun j _ => Int.mul_comm _ _
theorem dot_turn {s : Nat → Nat → Int} (sk : ∀ a b, s a b = -s b a) {m : Nat} {x w : Vc} : dotV m x (fun i => dotV m w (s i)) = -dotV m w (fun i => dotV m x (s i)) := by
  rw [dot_swap (x := x) (z := w) (a := s), ← dot_neg]
  refine dot_congr (fun _ _ => rfl) fun j _ => ?_
  rw [← dot_neg]
  exact dot_congr (fun _ _ => rfl) fun i _ => sk i j
section
variable {T : List (List Bool)} {m : Nat} {xs ws : List Int}
theorem ev_Ev (h0 : 0 < m) (hx : xs.length = m) (he : evB T m xs = true) : Ev (sk2 T m) m (fun t => xs.getD t 0) ∧ ∀ i, i < m → ¬ 0 < xs.getD i 0 → dotV m (fun t => xs.getD t 0) (sk2 T m i) < 0 := by
  obtain ⟨e1, e2, e3, e4⟩ := (ev_iff h0 hx).mp he
  refine ⟨⟨fun i => ?_, e2, fun i hi => ?_, fun i hi hp => ?_⟩, fun i hi hp => ?_⟩
  · by_cases h : i < m
    · exact e1 i h
    · have : xs.getD i 0 = 0 := by simp [List.getD, show ¬ i < xs.length by omega]
      rw [this]
      exact Int.le_refl 0
  · rw [← scr_dotv hi]
    by_cases h : 0 < xs.getD i 0
    · rw [e3 i hi h]; exact Int.le_refl 0
    · have := e4 i hi h; omega
  · rw [← scr_dotv hi]; exact e3 i hi hp
  · rw [← scr_dotv hi]; exact e4 i hi hp
theorem ev_in (h0 : 0 < m) (hx : xs.length = m) (hw : ws.length = m) (he : evB T m xs = true) (hf : evB T m ws = true) : ∀ i, i < m → 0 < ws.getD i 0 → 0 < xs.getD i 0 := by
  obtain ⟨X, x4⟩ := ev_Ev h0 hx he
  obtain ⟨W, w4⟩ := ev_Ev h0 hw hf
  have t := dot_turn (s := sk2 T m) sk2_skew (m := m) (x := fun t => xs.getD t 0) (w := fun t => ws.getD t 0)
  have n1 := dot_nn (n := m) (y := fun t => xs.getD t 0) (a := fun i => -dotV m (fun t => ws.getD t 0) (sk2 T m i)) fun i hi => Int.mul_nonneg (X.nn i) (by have := W.le i hi; omega)
  have n2 := dot_nn (n := m) (y := fun t => ws.getD t 0) (a := fun i => -dotV m (fun t => xs.getD t 0) (sk2 T m i)) fun i hi => Int.mul_nonneg (W.nn i) (by have := X.le i hi; omega)
  rw [dot_neg] at n1 n2
  intro i hi hp
  by_cases h : 0 < xs.getD i 0
  · exact h
  · have h1 := x4 i hi h
    have h2 := n2.2 i hi
    have h3 := Int.mul_pos hp (show 0 < -dotV m (fun t => xs.getD t 0) (sk2 T m i) by omega)
    have n10 := n1.1
    have n20 := n2.1
    have h2 : ws.getD i 0 * -dotV m (fun t => xs.getD t 0) (sk2 T m i) ≤ -dotV m (fun t => ws.getD t 0) (fun i => dotV m (fun t => xs.getD t 0) (sk2 T m i)) := h2
    omega
theorem ev_mult (F : Full m T) (h0 : 0 < m) (hm : m ≤ 8) (hx : xs.length = m) (hw : ws.length = m) (he : evB T m xs = true) (hf : evB T m ws = true) {a b : Nat} (ha : a < m) (hb : b < m) : xs.getD a 0 * ws.getD b 0 = xs.getD b 0 * ws.getD a 0 := by
  obtain ⟨X, _⟩ := ev_Ev h0 hx he
  obtain ⟨W, _⟩ := ev_Ev h0 hw hf
  have i1 := ev_in h0 hx hw he hf
  have i2 := ev_in h0 hw hx hf he
  have P := odd_pf F hm
  have es : supp m (fun t => xs.getD t 0) = supp m (fun t => ws.getD t 0) := List.filter_congr fun i hi => by
    have hi := List.mem_range.mp hi
    by_cases h : 0 < xs.getD i 0
    · rw [decide_eq_true h, decide_eq_true (i2 i hi h)]
    · rw [decide_eq_false h, decide_eq_false fun z => h (i1 i hi z)]
  have zx : ∀ i, i < m → i ∉ supp m (fun t => xs.getD t 0) → xs.getD i 0 = 0 := fun i hi hn => by
    have := X.nn i
    by_cases h : 0 < xs.getD i 0
    · exact absurd (List.mem_filter.mpr ⟨List.mem_range.mpr hi, decide_eq_true h⟩) hn
    · omega
  have zw : ∀ i, i < m → i ∉ supp m (fun t => xs.getD t 0) → ws.getD i 0 = 0 := fun i hi hn => by
    rw [es] at hn
    have := W.nn i
    by_cases h : 0 < ws.getD i 0
    · exact absurd (List.mem_filter.mpr ⟨List.mem_range.mpr hi, decide_eq_true h⟩) hn
    · omega
  by_cases sa : a ∈ supp m (fun t => xs.getD t 0)
  · by_cases sb : b ∈ supp m (fun t => xs.getD t 0)
    · have p1 := ev_prop P X sa sb
      have p2 := ev_prop P W (es ▸ sa) (es ▸ sb)
      rw [← es] at p2
      obtain ⟨S, hS⟩ : ∃ S, S = supp m (fun t => xs.getD t 0) := ⟨_, rfl⟩
      have od := ev_odd P X
      rw [← hS] at p1 p2 sa sb od
      have nd : S.Nodup := by rw [hS]; exact supp_nd
      have lt : ∀ t ∈ S, t < m := by rw [hS]; exact supp_lt
      have O : Od m S := ⟨nd, lt, od⟩
      have hv := (O.v F hm sb).1
      obtain ⟨va, hva⟩ : ∃ va, va = vt (sk2 T m) S a := ⟨_, rfl⟩
      obtain ⟨vb, hvb⟩ : ∃ vb, vb = vt (sk2 T m) S b := ⟨_, rfl⟩
      rw [← hva, ← hvb] at p1 p2
      rw [← hvb] at hv
      have p1 : vb * xs.getD a 0 = xs.getD b 0 * va := p1
      have p2 : vb * ws.getD a 0 = ws.getD b 0 * va := p2
      have hz : vb * (xs.getD a 0 * ws.getD b 0 - xs.getD b 0 * ws.getD a 0) = 0 := by grind
      rcases Int.mul_eq_zero.mp hz with z | z
      · rw [z] at hv; cases hv
      · omega
    · rw [zx b hb sb, zw b hb sb]
      omega
  · rw [zx a ha sa, zw a ha sa]
    omega
end

/-! alike: the kernel on the things that weigh something is a multiple of the weights -/
theorem okW {m : Nat} {T : List (List Bool)} {W : List Int} (h0 : 0 < m) (hl : W.length = m) (he : evB T m W = true) : supp m (fun t => W.getD t 0) = (List.range m).filter fun t => decide (W.getD t 0 > 0) := rfl
theorem alike_eq {m : Nat} {T : List (List Bool)} (F : Full m T) (h0 : 0 < m) (hm : m ≤ 8) {W : List Int} (hl : W.length = m) (hb : ∀ j, (W.getD j 0).natAbs ≤ 15) (he : evB T m W = true) : m__law_alike [tabD T, inD' W] = some (.bl true) := by
  refine run_of rfl ?_
  obtain ⟨E, _⟩ := ev_Ev h0 hl he
  have P := odd_pf F hm
  have od := ev_odd P E
  have nd := supp_nd (m := m) (x := fun t => W.getD t 0)
  have lt := supp_lt (m := m) (x := fun t => W.getD t 0)
  have pr := fun {a b : Nat} => ev_prop P E (a := a) (b := b)
  have hS0 := okW h0 hl he
  obtain ⟨S, hS⟩ : ∃ S, S = supp m (fun t => W.getD t 0) := ⟨_, rfl⟩
  rw [← hS] at od nd lt pr hS0
  have O : Od m S := ⟨nd, lt, od⟩
  obtain ⟨c, hc, hc3⟩ := O.half hm
  have il : isF "list" (inD' W) = true := rfl
  have ln : lenF [inD' W] = some (.int (m : Int)) := by
    show lenF [.lst (W.map .int)] = _
    rw [len_map, hl]
  have cx : ∀ a b d : Option D, compX (some (rngL 0 m)) (compF (dTest (d2 gtI (d2 ixD (dVar 1) (dVar 5)) (dC (.int 0)))) (dVar 5) [some (tabD T), some (inD' W), a, b, d]) = some (S.map nD) := fun a b d => by
    rw [rng_nat, hS0]
    exact cx_of (fun t => decide (W.getD t 0 > 0)) nD (by simp; omega) (fun t ht => by simp! only [nD, ix_in (ws := W) (k := t) (by have := List.mem_range.mp ht; omega)]) fun t ht _ => by simp! only []
  have md : modI (.int (S.length : Int)) (.int 2) = some (.int 1) := by
    rw [ea_mod (by omega)]
    congr 2
    omega
  have hl8 : S.length ≤ 1000 := by omega
  have c2 : ∀ a b : Option D, compX (some (S.map nD)) (compF dYes (mkFlat (dComp (dSeq (dVar 2)) dYes (d2 ixD (d2 ixD (dVar 0) (dVar 5)) (dVar 6)))) [some (tabD T), some (inD' W), some (thD S), a, b]) = some ((gridT S (at2 T)).map rowD) := fun a b => by
    rw [cx_all (fun i => rowD (S.map fun j => at2 T i j)) hl8 fun i hi => ?_]
    · unfold gridT
      rw [List.map_map]
      rfl
    · have c3 : compX (some (S.map nD)) (compF dYes (d2 ixD (d2 ixD (dVar 0) (dVar 5)) (dVar 6)) [some (tabD T), some (inD' W), some (thD S), a, b, some (nD i)]) = some ((S.map fun j => at2 T i j).map bD) := by
        rw [cx_all (fun j => bD (at2 T i j)) hl8 fun j hj => ?_]
        · rw [List.map_map]
          rfl
        · simp! only [nD, ix2 F.sq (lt i hi) (lt j hj), bD]
      simp! only [seq_th, c3, eo_flat (imms_map_bD _)]
      rfl
  have ke := kernel_eq (sq_grid (th := S) (f := at2 T)) hc hc3
  rw [hc] at ke
  have kp := ker_part F nd lt hc hc3
  rw [hc] at kp
  rw [kp] at ke
  have tl : D.lst ((gridT S (at2 T)).map rowD) = tabD (gridT S (at2 T)) := rfl
  obtain ⟨v, hv⟩ : ∃ v, v = vt (sk2 T m) S := ⟨_, rfl⟩
  have hod : ∀ t ∈ S, v t % 2 = 1 ∧ (v t).natAbs ≤ 15 := fun t ht => by rw [hv]; exact O.v F hm ht
  rw [← hv] at ke pr
  have lk : lenF [inD' (S.map v)] = some (.int (S.length : Int)) := by
    show lenF [.lst ((S.map v).map .int)] = _
    rw [len_map, List.length_map]
  have ilk : isF "list" (inD' (S.map v)) = true := rfl
  have ne1 : neD (.int (S.length : Int)) (.int (S.length : Int)) = some (.bl false) := ne_same okN_int (by omega)
  simp_all! only [g__law_alike, il, ln, len_tab, F.sq.1, rng1_nat (show m ≤ 1000000 by omega), cx, th_lst, len_th, md, seq_th, c2, tl, ke, ilk, lk, ne1, rng1_nat (show S.length ≤ 1000000 by omega)]
  have gS : ∀ k, k < S.length → S.getD k 0 ∈ S := fun k hk => by
    rw [List.getD_eq_getElem?_getD, List.getElem?_eq_getElem hk]
    exact List.getElem_mem hk
  have ixS : ∀ k, k < S.length → ixD (thD S) (.int (k : Int)) = some (.int ((S.getD k 0 : Nat) : Int)) := fun k hk => by
    have : S.getD k 0 = S[k] := by simp [List.getD, hk]
    rw [this]
    exact ix_nat (by rw [List.getElem?_eq_getElem (by simpa using hk), List.getElem_map]; rfl)
  have ixV : ∀ k, k < S.length → ixD (inD' (S.map v)) (.int (k : Int)) = some (.int (v (S.getD k 0))) := fun k hk => by
    have := ix_in (ws := S.map v) (k := k) (by rw [List.length_map]; exact hk)
    have e : (S.map v).getD k 0 = v (S.getD k 0) := by simp [List.getD, List.getElem?_eq_getElem hk]
    rw [e] at this
    exact this
  have h0S : 0 < S.length := by omega
  have s0 : ixD (thD S) (.int 0) = some (.int ((S.getD 0 0 : Nat) : Int)) := ixS 0 h0S
  have v0 : ixD (inD' (S.map v)) (.int 0) = some (.int (v (S.getD 0 0))) := ixV 0 h0S
  have bb : ∀ a ∈ S, ∀ b : Nat, mulB (.int (v a)) (.int (W.getD b 0)) = some (.int (v a * W.getD b 0)) := fun a ha b => mulB_of (by have := (hod a ha).2; omega) (by have := hb b; omega)
  refine hol_bindO (I := fun s => ∃ o4, s = [some (.sh (tabD T)), some (.sh (inD' W)), some (.sh (thD S)), some (.ow (inD' (S.map v))), o4]) (for_rng (fun _ s => ∃ o4, s = [some (.sh (tabD T)), some (.sh (inD' W)), some (.sh (thD S)), some (.ow (inD' (S.map v))), o4]) ⟨_, rfl⟩ ?_ fun s z => ⟨s, rfl, z⟩) ?_
  · rintro k hk s ⟨o4, rfl⟩
    have p := pr (a := S.getD 0 0) (b := S.getD k 0) (gS 0 h0S) (gS k hk)
    have p : v (S.getD k 0) * W.getD (S.getD 0 0) 0 = v (S.getD 0 0) * W.getD (S.getD k 0) 0 := by
      have p : v (S.getD k 0) * W.getD (S.getD 0 0) 0 = W.getD (S.getD k 0) 0 * v (S.getD 0 0) := p
      rw [p, Int.mul_comm]
    have ne2 : neD (.int (v (S.getD 0 0) * W.getD (S.getD k 0) 0)) (.int (v (S.getD 0 0) * W.getD (S.getD k 0) 0)) = some (.bl false) := ne_same okN_int (by omega)
    simp_all! only [Int.zero_add, ixV k hk, ixS k hk, s0, v0, whole_eq, ix_in (ws := W) (k := S.getD 0 0) (by rw [hl]; exact lt _ (gS 0 h0S)), ix_in (ws := W) (k := S.getD k 0) (by rw [hl]; exact lt _ (gS k hk)), bb _ (gS 0 h0S), bb _ (gS k hk), p, ne2, hol_some]
    exact ⟨_, rfl⟩
  · rintro s ⟨o4, rfl⟩
    have nz : decide (v (S.getD 0 0) = 0) = false := decide_eq_false fun z => by
      have := (hod _ (gS 0 h0S)).1
      rw [z] at this
      cases this
    simp_all! only [v0, nz, hol_some]

/-! a table told from its end, and turned; weights without a common divisor are one -/
theorem rev_get {W : List Int} {m j : Nat} (hl : W.length = m) (hj : j < m) : W.reverse.getD j 0 = W.getD (m - 1 - j) 0 := by
  have h1 : j < W.reverse.length := by simp; omega
  have h2 : m - 1 - j < W.length := by omega
  rw [List.getD_eq_getElem?_getD, List.getD_eq_getElem?_getD, List.getElem?_reverse (by omega), hl]
theorem rng_rev {m : Nat} : (List.range m).map (fun j => m - 1 - j) = (List.range m).reverse := by
  apply List.ext_getElem
  · simp
  · intro i h1 h2
    simp
theorem rr_get {m i : Nat} (h : i < m) : (List.range m).reverse.getD i 0 = m - 1 - i := by
  rw [← rng_rev]
  simp [List.getD, h]
theorem ls_rev {m : Nat} {g : Nat → Int} : lsum (List.range m) (fun j => g (m - 1 - j)) = lsum (List.range m) g := by
  have e : lsum (List.range m) (fun j => g (m - 1 - j)) = lsum ((List.range m).map fun j => m - 1 - j) g := by
    unfold lsum
    rw [List.map_map]
    rfl
  rw [e, rng_rev]
  exact ls_perm (List.reverse_perm _)
section
variable {T : List (List Bool)} {m : Nat}
def bkT (T : List (List Bool)) (m : Nat) : List (List Bool) := gridT (List.range m).reverse (at2 T)
def tnT (T : List (List Bool)) (m : Nat) : List (List Bool) := gridT (List.range m) fun i j => at2 T j i
theorem bk_at {i j : Nat} (hi : i < m) (hj : j < m) : at2 (bkT T m) i j = at2 T (m - 1 - i) (m - 1 - j) := by
  unfold bkT
  rw [at_gridL (by simpa using hi) (by simpa using hj), rr_get hi, rr_get hj]
theorem tn_at {i j : Nat} (hi : i < m) (hj : j < m) : at2 (tnT T m) i j = at2 T j i := by
  unfold tnT
  rw [at_gridL (by simpa using hi) (by simpa using hj)]
  simp [List.getD, hi, hj]
theorem bk_full (F : Full m T) : Full m (bkT T m) := by
  have sq : Sq m (bkT T m) := by
    have := sq_grid (th := (List.range m).reverse) (f := at2 T)
    rwa [List.length_reverse, List.length_range] at this
  refine ⟨sq, fun i hi => ?_, fun i hi j hj hij => ?_⟩
  · rw [bk_at hi hi, F.own _ (by omega)]
  · rw [bk_at hi hj, bk_at hj hi, F.two _ (by omega) _ (by omega) (by omega)]
theorem tn_full (F : Full m T) : Full m (tnT T m) := by
  have sq : Sq m (tnT T m) := by
    have := sq_grid (th := List.range m) (f := fun i j => at2 T j i)
    rwa [List.length_range] at this
  refine ⟨sq, fun i hi => ?_, fun i hi j hj hij => ?_⟩
  · rw [tn_at hi hi, F.own _ hi]
  · rw [tn_at hi hj, tn_at hj hi, F.two _ hj _ hi (Ne.symm hij)]
theorem bk_scr {W : List Int} (hl : W.length = m) {i : Nat} (hi : i < m) : scr (bkT T m) W.reverse m i = scr T W m (m - 1 - i) := by
  rw [scr_sum hi (Nat.le_refl _), scr_sum (show m - 1 - i < m by omega) (Nat.le_refl _)]
  show lsum (List.range m) _ = lsum (List.range m) _
  rw [← ls_rev (g := fun j => sk2 T m (m - 1 - i) j * W.getD j 0)]
  refine ls_congr fun j hj => ?_
  have hj := List.mem_range.mp hj
  rw [rev_get hl hj]
  congr 1
  unfold sk2
  rw [if_pos (show i < m ∧ j < m from ⟨hi, hj⟩), if_pos (show m - 1 - i < m ∧ m - 1 - j < m from ⟨by omega, by omega⟩), bk_at hi hj, bk_at hj hi]
theorem bk_even (h0 : 0 < m) {W : List Int} (hl : W.length = m) (he : evB T m W = true) : evB (bkT T m) m W.reverse = true := by
  obtain ⟨e1, ⟨t, ht, htp⟩, e3, e4⟩ := (ev_iff h0 hl).mp he
  refine (ev_iff h0 (by simpa using hl)).mpr ⟨fun i hi => ?_, ⟨m - 1 - t, by omega, ?_⟩, fun i hi hp => ?_, fun i hi hp => ?_⟩
  · rw [rev_get hl hi]; exact e1 _ (by omega)
  · rw [rev_get hl (by omega), show m - 1 - (m - 1 - t) = t by omega]; exact htp
  · rw [rev_get hl hi] at hp
    rw [bk_scr hl hi]; exact e3 _ (by omega) hp
  · rw [rev_get hl hi] at hp
    rw [bk_scr hl hi]; exact e4 _ (by omega) hp
end
theorem dvd_gcm {d c : Nat} {vs : List Int} (hd : ∀ v ∈ vs, d ∣ c * v.natAbs) : d ∣ c * gcL vs := by
  have h : ∀ (r vs : List Int), vs = r.reverse → (∀ v ∈ vs, d ∣ c * v.natAbs) → d ∣ c * gcL vs := by
    intro r
    induction r with
    | nil => rintro vs rfl _; exact Nat.dvd_zero d
    | cons a r ih =>
      rintro vs rfl hv
      rw [List.reverse_cons] at hv ⊢
      rw [gcL_snoc, ← Nat.gcd_mul_left]
      exact Nat.dvd_gcd (ih _ rfl fun v h => hv v (List.mem_append.mpr (.inl h))) (hv a (by simp))
  exact h vs.reverse vs (List.reverse_reverse vs).symm hd
theorem gc_rev {vs : List Int} : gcL vs.reverse = gcL vs := Nat.dvd_antisymm (dvd_gc fun v hv => gc_dvd v (List.mem_reverse.mpr hv)) (dvd_gc fun v hv => gc_dvd v (List.mem_reverse.mp hv))
theorem mult_one {m : Nat} {xs ws : List Int} (hx : xs.length = m) (hw : ws.length = m) (nx : ∀ t, t < m → 0 ≤ xs.getD t 0) (nw : ∀ t, t < m → 0 ≤ ws.getD t 0) (gx : gcL xs = 1) (gw : gcL ws = 1) (h : ∀ a b, a < m → b < m → xs.getD a 0 * ws.getD b 0 = xs.getD b 0 * ws.getD a 0) : xs = ws := by
  have el : ∀ {ys : List Int}, ys.length = m → ∀ v ∈ ys, ∃ t, t < m ∧ ys.getD t 0 = v := fun {ys} hy v hv => by
    obtain ⟨i, hi, rfl⟩ := List.mem_iff_getElem.mp hv
    exact ⟨i, by omega, by simp [List.getD, List.getElem?_eq_getElem hi]⟩
  have key : ∀ a, a < m → xs.getD a 0 = ws.getD a 0 := fun a ha => by
    have d1 : (xs.getD a 0).natAbs ∣ (ws.getD a 0).natAbs * gcL xs := dvd_gcm fun v hv => by
      obtain ⟨t, ht, rfl⟩ := el hx v hv
      have := h a t ha ht
      rw [← Int.natAbs_mul, Int.mul_comm (ws.getD a 0), ← this, Int.natAbs_mul]
      exact Nat.dvd_mul_right _ _
    have d2 : (ws.getD a 0).natAbs ∣ (xs.getD a 0).natAbs * gcL ws := dvd_gcm fun v hv => by
      obtain ⟨t, ht, rfl⟩ := el hw v hv
      have := h a t ha ht
      rw [← Int.natAbs_mul, this, Int.natAbs_mul]
      exact Nat.dvd_mul_left _ _
    rw [gx, Nat.mul_one] at d1
    rw [gw, Nat.mul_one] at d2
    have e := Nat.dvd_antisymm d1 d2
    have := nx a ha
    have := nw a ha
    omega
  apply List.ext_getElem (by omega)
  intro i h1 h2
  have := key i (by omega)
  rwa [List.getD_eq_getElem?_getD, List.getD_eq_getElem?_getD, List.getElem?_eq_getElem h1, List.getElem?_eq_getElem h2] at this

theorem grid_cx {th : List Nat} {f : Nat → Nat → Bool} {g : DS → Option (List D)} {h : DE} {δ : DS} (hl : th.length ≤ 1000) (hg : ∀ i ∈ th, g (δ ++ [some (nD i)]) = some (th.map nD)) (hf : ∀ i ∈ th, ∀ j ∈ th, h (δ ++ [some (nD i)] ++ [some (nD j)]) = some (.bl (f i j))) : compX (some (th.map nD)) (compF dYes (mkFlat (dComp g dYes h)) δ) = some ((gridT th f).map rowD) := by
  rw [cx_all (fun i => rowD (th.map fun j => f i j)) hl fun i hi => ?_]
  · unfold gridT
    rw [List.map_map]
    rfl
  · have c3 : compX (some (th.map nD)) (compF dYes h (δ ++ [some (nD i)])) = some ((th.map fun j => f i j).map bD) := by
      rw [cx_all (fun j => bD (f i j)) hl fun j hj => ?_]
      · rw [List.map_map]
        rfl
      · exact hf i hi j hj
    simp! only [hg i hi, c3, eo_flat (imms_map_bD _)]
    rfl
theorem law_true (ns : List Int) (hns : ns.length ≤ 63) : m_law [.scr ns] = some (.bl true) := by
  refine run_of rfl ?_
  obtain ⟨c0, e0⟩ := cell_at ns 0
  have e0 : m__law_cell_at [.scr ns, .int 0] = some (.int c0) := e0
  have d8 : modI (.int c0) (.int 7) = some (.int (c0 % 7)) := ea_mod (by omega)
  obtain ⟨c, ek, hk⟩ := mod_nat (x := c0) (n := 7) (by omega)
  have ek : c0 % 7 = (c : Int) := ek
  obtain ⟨m, hm⟩ : ∃ m : Nat, m = 1 + c := ⟨_, rfl⟩
  have mm : 1 + (c : Int) = (m : Int) := by omega
  have h0 : 0 < m := by omega
  have h8 : m ≤ 8 := by omega
  obtain ⟨_, e1, T, rfl, F⟩ := table_eq ns m (by omega)
  have Fb := bk_full F
  have Ft := tn_full F
  obtain ⟨_, ew, S, O, hu, he, rfl⟩ := weighing_eq F h0 h8
  obtain ⟨_, ewt, St, Ot, _, het, rfl⟩ := weighing_eq Ft h0 h8
  obtain ⟨_, ewb, Sb, Ob, _, heb, rfl⟩ := weighing_eq Fb h0 h8
  have bd : ∀ {T : List (List Bool)} {S : List Nat}, Full m T → Od m S → evB T m (wtS T m S) = true → ∀ j, ((wtS T m S).getD j 0).natAbs ≤ 15 := fun {T S} F O he j => by
    by_cases h : j < m
    · have := (O.wt F h0 h8 he h).2
      omega
    · have : (wtS T m S).getD j 0 = 0 := by simp [List.getD, show ¬ j < (wtS T m S).length by rw [wt_len]; omega]
      rw [this]
      decide
  have a1 := alike_eq F h0 h8 wt_len (bd F O he) he
  have a2 := alike_eq Ft h0 h8 wt_len (bd Ft Ot het) het
  have a3 := alike_eq Fb h0 h8 wt_len (bd Fb Ob heb) heb
  have rl : (wtS T m S).reverse.length = m := by rw [List.length_reverse, wt_len]
  have hr := bk_even h0 wt_len he
  have es : wtS (bkT T m) m Sb = (wtS T m S).reverse := mult_one wt_len rl ((ev_iff h0 wt_len).mp heb).1 ((ev_iff h0 rl).mp hr).1 (gc_one Fb h8 Ob) (by rw [gc_rev]; exact gc_one F h8 O) fun a b ha hb => ev_mult Fb h0 h8 wt_len rl heb hr ha hb
  obtain ⟨W, hW⟩ : ∃ W, W = wtS T m S := ⟨_, rfl⟩
  obtain ⟨B, hB⟩ : ∃ B, B = bkT T m := ⟨_, rfl⟩
  obtain ⟨N, hN⟩ : ∃ N, N = tnT T m := ⟨_, rfl⟩
  obtain ⟨V, hV⟩ : ∃ V, V = wtS (tnT T m) m St := ⟨_, rfl⟩
  rw [es, ← hW, ← hB] at ewb a3
  rw [← hW] at ew a1
  rw [← hV, ← hN] at ewt a2
  have r1 : rng1 (some (.int (m : Int))) = some ((List.range m).map nD) := by rw [rng1_nat (show m ≤ 1000000 by omega), rng_nat]
  have sm : smallO (some ((List.range m).map nD)) = some ((List.range m).map nD) := eo_small (by simp; omega)
  have rv : revO (some (thD (List.range m))) (some (.int (-1))) = some ((List.range m).reverse.map nD) := by
    show some ((List.range m).map nD).reverse = _
    rw [List.map_reverse]
  have c1 : ∀ a b d e : Option D, compX (some ((List.range m).map nD)) (compF dYes (mkFlat (dComp (dSeq (dVar 2)) dYes (d2 ixD (d2 ixD (dVar 1) (dVar 8)) (dVar 7)))) [some (.scr ns), some (tabD T), some (thD (List.range m)), a, b, d, e]) = some (N.map rowD) := fun a b d e => by
    rw [hN]
    exact grid_cx (th := List.range m) (f := fun i j => at2 T j i) (by simp; omega) (fun i hi => by simp! only [seq_th]) fun i hi j hj => by simp! only [nD, ix2 F.sq (List.mem_range.mp hj) (List.mem_range.mp hi)]
  have c2 : ∀ a b d e : Option D, compX (some ((List.range m).reverse.map nD)) (compF dYes (mkFlat (dComp (dSeq (mkL (dRevL (dVar 2) (d1 uNeg (dC (.int 1)))))) dYes (d2 ixD (d2 ixD (dVar 1) (dVar 7)) (dVar 8)))) [some (.scr ns), some (tabD T), some (thD (List.range m)), a, b, d, e]) = some (B.map rowD) := fun a b d e => by
    rw [hB]
    have hlt : ∀ i ∈ (List.range m).reverse, i < m := fun i hi => List.mem_range.mp (List.mem_reverse.mp hi)
    exact grid_cx (th := (List.range m).reverse) (f := at2 T) (by simp; omega) (fun i hi => by simp! only [rv, th_lst, seq_th]) fun i hi j hj => by simp! only [nD, ix2 F.sq (hlt i hi) (hlt j hj)]
  have c3 : ∀ a b d e f : Option D, compX (some (T.map rowD)) (compF dYes (mkFlat (dCallL listF [dVar 7])) [some (.scr ns), some (tabD T), some (thD (List.range m)), a, b, d, e]) = some (T.map rowD) := fun a b d e f => by
    have hT : T.length ≤ 1000 := by rw [F.sq.1]; omega
    rw [cx_all (enc := rowD) (xs := T) (fun r => rowD r) hT fun r hr => ?_]
    have l1 : listF [rowD r] = some (r.map bD) := rfl
    simp! only [l1, eo_flat (imms_map_bD _)]
    rfl
  have tl : ∀ T : List (List Bool), D.lst (T.map rowD) = tabD T := fun _ => rfl
  have sqT : seqD (tabD T) = some (T.map rowD) := rfl
  have rw' : revO (some (inD' W)) (some (.int (-1))) = some (W.reverse.map .int) := by
    show some ((W.map D.int).reverse) = _
    rw [List.map_reverse]
  have eqs : eqD (inD' W.reverse) (inD' W.reverse) = some (.bl true) := eq_self (okP_of (okN_ints _) (by omega))
  simp_all! only [g_law, e0, d8, ek, mm, e1, len_tab, F.sq.1, r1, sm, flat_th, th_lst, seq_th, c1, rv, c2, tl, sqT, c3 _ _ _ _ none, ew, ewt, a1, a2, ewb, a3, rw', lst_in, eqs, hol_some]
end Prg

open PySem PySem.W PyProof.Rows
set_option maxRecDepth 100000 in
set_option maxHeartbeats 0 in
theorem PySem.Challenge.cw_askorder_k68_whole_weights_by_pairings_holds : PySem.Challenge.rw_askorder_k68_whole_weights_by_pairings.Holds := by
  w_on; o_law; k_head; (case hw => w_witness2)
  k_fill
  refine Prg.walk (l := PySem.Challenge.rw_askorder_k68_whole_weights_by_pairings) rfl rfl Prg.law_true (fun w h Y => PySem.W.kIn_of Y) ?F
  case F =>
    intro w mg fa h KX G hmg
    refine' Prg.all_mk KX G hmg ?a_part ?l_part ?c_part ?k_part ?a_picked ?l_picked ?c_picked ?k_picked ?a_column ?l_column ?c_column ?k_column ?a_beaten_by ?l_beaten_by ?c_beaten_by ?k_beaten_by ?a_beaters_of ?l_beaters_of ?c_beaters_of ?k_beaters_of ?a_beats_all ?l_beats_all ?c_beats_all ?k_beats_all ?a_places_true ?l_places_true ?c_places_true ?k_places_true ?a_covers ?l_covers ?c_covers ?k_covers ?a_uncovered ?l_uncovered ?c_uncovered ?k_uncovered ?a_is_covered ?l_is_covered ?c_is_covered ?k_is_covered ?a_pairing_sum ?l_pairing_sum ?c_pairing_sum ?k_pairing_sum ?a_sign ?l_sign ?c_sign ?k_sign ?a_turned_sign ?l_turned_sign ?c_turned_sign ?k_turned_sign ?a_without ?l_without ?c_without ?k_without ?a_kernel ?l_kernel ?c_kernel ?k_kernel ?a_score ?l_score ?c_score ?k_score ?a_weight_of ?l_weight_of ?c_weight_of ?k_weight_of ?a_is_even ?l_is_even ?c_is_even ?k_is_even ?a_is_even_at ?l_is_even_at ?c_is_even_at ?k_is_even_at ?a_weighing ?l_weighing ?c_weighing ?k_weighing ?a_odd_picks ?l_odd_picks ?c_odd_picks ?k_odd_picks ?a_weights_on ?l_weights_on ?c_weights_on ?k_weights_on ?a_common_divisor ?l_common_divisor ?c_common_divisor ?k_common_divisor ?a_divisor_of_two ?l_divisor_of_two ?c_divisor_of_two ?k_divisor_of_two ?a__law_whole ?l__law_whole ?c__law_whole ?k__law_whole ?a__law_cell_at ?l__law_cell_at ?c__law_cell_at ?k__law_cell_at ?a__law_table ?l__law_table ?c__law_table ?k__law_table ?a__law_alike ?l__law_alike ?c__law_alike ?k__law_alike ?a_law ?l_law ?c_law ?k_law ?z_all ?z_enumerate ?z_range ?z_len ?z_any ?z_sum ?z_min ?z_max ?z_abs ?z_zip ?z_int ?z_isinstance ?z_bool ?z_list
    (case a_part => k_is)
    (case l_part => k_is)
    (case c_part => k_is)
    (case k_part => k_is)
    (case a_picked => k_is)
    (case l_picked => k_is)
    (case c_picked => k_is)
    (case k_picked => k_is)
    (case a_column => k_is)
    (case l_column => k_is)
    (case c_column => k_is)
    (case k_column => k_is)
    (case a_beaten_by => k_is)
    (case l_beaten_by => k_is)
    (case c_beaten_by => k_is)
    (case k_beaten_by => k_is)
    (case a_beaters_of => k_is)
    (case l_beaters_of => k_is)
    (case c_beaters_of => k_is)
    (case k_beaters_of => k_is)
    (case a_beats_all => k_is)
    (case l_beats_all => k_is)
    (case c_beats_all => k_is)
    (case k_beats_all => k_is)
    (case a_places_true => k_is)
    (case l_places_true => k_is)
    (case c_places_true => k_is)
    (case k_places_true => k_is)
    (case a_covers => k_is)
    (case l_covers => k_is)
    (case c_covers => k_is)
    (case k_covers => k_is)
    (case a_uncovered => k_is)
    (case l_uncovered => k_is)
    (case c_uncovered => k_is)
    (case k_uncovered => k_is)
    (case a_is_covered => k_is)
    (case l_is_covered => k_is)
    (case c_is_covered => k_is)
    (case k_is_covered => k_is)
    (case a_pairing_sum => k_is)
    (case l_pairing_sum => k_is)
    (case c_pairing_sum => k_is)
    (case k_pairing_sum => k_is)
    (case a_sign => k_is)
    (case l_sign => k_is)
    (case c_sign => k_is)
    (case k_sign => k_is)
    (case a_turned_sign => k_is)
    (case l_turned_sign => k_is)
    (case c_turned_sign => k_is)
    (case k_turned_sign => k_is)
    (case a_without => k_is)
    (case l_without => k_is)
    (case c_without => k_is)
    (case k_without => k_is)
    (case a_kernel => k_is)
    (case l_kernel => k_is)
    (case c_kernel => k_is)
    (case k_kernel => k_is)
    (case a_score => k_is)
    (case l_score => k_is)
    (case c_score => k_is)
    (case k_score => k_is)
    (case a_weight_of => k_is)
    (case l_weight_of => k_is)
    (case c_weight_of => k_is)
    (case k_weight_of => k_is)
    (case a_is_even => k_is)
    (case l_is_even => k_is)
    (case c_is_even => k_is)
    (case k_is_even => k_is)
    (case a_is_even_at => k_is)
    (case l_is_even_at => k_is)
    (case c_is_even_at => k_is)
    (case k_is_even_at => k_is)
    (case a_weighing => k_is)
    (case l_weighing => k_is)
    (case c_weighing => k_is)
    (case k_weighing => k_is)
    (case a_odd_picks => k_is)
    (case l_odd_picks => k_is)
    (case c_odd_picks => k_is)
    (case k_odd_picks => k_is)
    (case a_weights_on => k_is)
    (case l_weights_on => k_is)
    (case c_weights_on => k_is)
    (case k_weights_on => k_is)
    (case a_common_divisor => k_is)
    (case l_common_divisor => k_is)
    (case c_common_divisor => k_is)
    (case k_common_divisor => k_is)
    (case a_divisor_of_two => k_is)
    (case l_divisor_of_two => k_is)
    (case c_divisor_of_two => k_is)
    (case k_divisor_of_two => k_is)
    (case a__law_whole => k_is)
    (case l__law_whole => k_is)
    (case c__law_whole => k_is)
    (case k__law_whole => k_is)
    (case a__law_cell_at => k_is)
    (case l__law_cell_at => k_is)
    (case c__law_cell_at => k_is)
    (case k__law_cell_at => k_is)
    (case a__law_table => k_is)
    (case l__law_table => k_is)
    (case c__law_table => k_is)
    (case k__law_table => k_is)
    (case a__law_alike => k_is)
    (case l__law_alike => k_is)
    (case c__law_alike => k_is)
    (case k__law_alike => k_is)
    (case a_law => k_is)
    (case l_law => k_is)
    (case c_law => k_is)
    (case k_law => k_is)
    (case z_all => k_is)
    (case z_enumerate => k_is)
    (case z_range => k_is)
    (case z_len => k_is)
    (case z_any => k_is)
    (case z_sum => k_is)
    (case z_min => k_is)
    (case z_max => k_is)
    (case z_abs => k_is)
    (case z_zip => k_is)
    (case z_int => k_is)
    (case z_isinstance => k_is)
    (case z_bool => k_is)
    (case z_list => k_is)
