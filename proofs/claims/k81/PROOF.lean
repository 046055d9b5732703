import PyProof.Rows.All
import Wide.All
import OpenK.AllK
import Wide.FinOn
import Lean
import PyProof.EqAt
import PyProof.EqKinds
import PyProof.TupleCall
import PySem.Challenge.RW_askorder_k81_ballots
set_option Elab.async false
set_option linter.all false
set_option maxRecDepth 100000
/-! THE HAND LAYER, for ints, bools, texts, own classes, LISTS and tuples (index, slices, in, append, pop ..), calls, loops. Paste it whole ahead of your own text; what your proof does not reach may be deleted. -/
namespace L2
open PySem PySem.Spec PyProof.Rows

/-- a key: an int or a str -/
abbrev Key := Sum Int Str
def keyIs : Key → Value → Bool
  | .inl k, v => Value.isInt k v
  | .inr x, v => Value.isStrOf x v
def keyH (w : World) : Key → Int
  | .inl k => hashInt k
  | .inr x => hashStr w x
theorem keyIs_shape : ∀ {k : Key} {v : Value}, keyIs k v = true → (∃ i t, k = Sum.inl i ∧ v = Value.int i t) ∨ (∃ x t, k = Sum.inr x ∧ v = Value.str x t)
  | .inl i, v, h => by
    obtain ⟨t, e⟩ := Value.isInt_shape (k := i) (v := v) h
    exact .inl ⟨i, t, rfl, e⟩
  | .inr x, v, h => by
    obtain ⟨t, e⟩ := Value.isStrOf_shape (x := x) (v := v) h
    exact .inr ⟨x, t, rfl, e⟩
theorem keyIs_int (i : Int) (t : Tok) : keyIs (.inl i) (.int i t) = true := by simp [keyIs, Value.isInt]
theorem keyIs_str (x : Str) (t : Tok) : keyIs (.inr x) (.str x t) = true := by simp [keyIs, Value.isStrOf]
theorem key_ll (a b : Int) : decide ((Sum.inl a : Key) = Sum.inl b) = (a == b) := by
  by_cases e : a = b
  · subst e; simp
  · have h : ¬ (Sum.inl a : Key) = Sum.inl b := fun q => e (Sum.inl.inj q)
    rw [decide_eq_false h]
    exact (beq_eq_false_iff_ne.mpr e).symm
theorem key_rr (a b : Str) : decide ((Sum.inr a : Key) = Sum.inr b) = decide (a = b) := by
  by_cases e : a = b
  · subst e; simp
  · have h : ¬ (Sum.inr a : Key) = Sum.inr b := fun q => e (Sum.inr.inj q)
    rw [decide_eq_false h, decide_eq_false e]
theorem key_lr (a : Int) (b : Str) : decide ((Sum.inl a : Key) = Sum.inr b) = false := decide_eq_false (fun q => nomatch q)
theorem key_rl (a : Str) (b : Int) : decide ((Sum.inr a : Key) = Sum.inl b) = false := decide_eq_false (fun q => nomatch q)

def mixKind (prog : Program) (w : World) : PySem.KeyKind prog w Key where
  is := keyIs
  hash := keyH w
  inj := fun v a b ha hb => by
    rcases keyIs_shape ha with ⟨i, t, rfl, rfl⟩ | ⟨x, t, rfl, rfl⟩
    · rcases keyIs_shape hb with ⟨j, u, rfl, e⟩ | ⟨y, u, rfl, e⟩
      · injection e with e1 _; rw [e1]
      · exact nomatch e
    · rcases keyIs_shape hb with ⟨j, u, rfl, e⟩ | ⟨y, u, rfl, e⟩
      · exact nomatch e
      · injection e with e1 _; rw [e1]
  byValue := fun k v h => by
    rcases keyIs_shape h with ⟨i, t, rfl, rfl⟩ | ⟨x, t, rfl, rfl⟩ <;> rfl
  pyHash := fun hv h => by
    rcases keyIs_shape hv with ⟨i, t, rfl, rfl⟩ | ⟨x, t, rfl, rfl⟩
    · exact wpAny_pyHash_int h
    · exact wpAny_pyHash_str h
  eqBool := fun hu hv h => by
    rcases keyIs_shape hu with ⟨i, t, rfl, rfl⟩ | ⟨x, t, rfl, rfl⟩
    · rcases keyIs_shape hv with ⟨j, u, rfl, rfl⟩ | ⟨y, u, rfl, rfl⟩
      · rw [key_ll] at h; exact wpAny_eqBool_int h
      · rw [key_lr] at h; exact SeqAt.EqAt.int_str i t y u _ _ _ _ h
    · rcases keyIs_shape hv with ⟨j, u, rfl, rfl⟩ | ⟨y, u, rfl, rfl⟩
      · rw [key_rl] at h; exact SeqAt.EqAt.str_int x t j u _ _ _ _ h
      · rw [key_rr] at h; exact wpAny_eqBool_str h
  «strs» := fun k x t v h => by
    rcases keyIs_shape h with ⟨i, u, rfl, e⟩ | ⟨y, u, rfl, e⟩
    · exact nomatch e
    · injection e with e1 _
      subst e1
      cases v <;> rfl

theorem mixKind_int (prog : Program) (w : World) (i : Int) (t : Tok) : (mixKind prog w).is (.inl i) (.int i t) = true := keyIs_int i t
theorem mixKind_str (prog : Program) (w : World) (x : Str) (t : Tok) : (mixKind prog w).is (.inr x) (.str x t) = true := keyIs_str x t
end L2

namespace L2
open PySem PySem.Spec PyProof.Rows

/-- a value, without the heap -/
inductive V where
  | non | bl (b : Bool) | int (i : Int) | str (x : Str) | byt (b : Array UInt8) | flt (b : UInt64) | ref (a : Addr) | ty (n : String)
  deriving DecidableEq

def RelV : V → Value → Prop
  | .non, u => u = Value.none
  | .bl b, u => u = Value.bool b
  | .int i, u => ∃ t, u = Value.int i t
  | .str x, u => ∃ t, u = Value.str x t
  | .byt b, u => ∃ t, u = Value.bytes b t
  | .flt b, u => ∃ t, u = Value.float b t
  | .ref a, u => u = Value.ref a
  | .ty n, u => u = Value.type n

abbrev Vals : List V → List Value → Prop := Paired RelV
theorem Vals.length {xs : List V} {us : List Value} (r : Vals xs us) : xs.length = us.length := Paired.length r
theorem Vals.get : ∀ {xs : List V} {us : List Value} {i : Nat} {x : V}, Vals xs us → xs[i]? = some x → ∃ u, us[i]? = some u ∧ RelV x u
  | _, _, _, _, .nil, e => by simp at e
  | _, _, 0, _, .cons r _, e => by simp at e; subst e; exact ⟨_, rfl, r⟩
  | _, _, i + 1, x, .cons _ t, e => by
    obtain ⟨u, h1, h2⟩ := Vals.get (i := i) (x := x) t (by simpa using e)
    exact ⟨u, by simpa using h1, h2⟩
theorem Vals.set {x : V} {u : Value} (r : RelV x u) : ∀ {xs : List V} {us : List Value} (i : Nat), Vals xs us → Vals (xs.set i x) (us.set i u)
  | _, _, _, .nil => .nil
  | _, _, 0, .cons _ t => .cons r t
  | _, _, i + 1, .cons q t => .cons q (Vals.set r i t)
theorem Vals.append : ∀ {xs ys : List V} {us ws : List Value}, Vals xs us → Vals ys ws → Vals (xs ++ ys) (us ++ ws)
  | _, _, _, _, .nil, s => s
  | _, _, _, _, .cons r t, s => .cons r (Vals.append t s)
theorem Vals.take : ∀ {xs : List V} {us : List Value} (n : Nat), Vals xs us → Vals (xs.take n) (us.take n)
  | _, _, 0, _ => .nil
  | _, _, _ + 1, .nil => .nil
  | _, _, n + 1, .cons r t => .cons r (Vals.take n t)
theorem Vals.drop : ∀ {xs : List V} {us : List Value} (n : Nat), Vals xs us → Vals (xs.drop n) (us.drop n)
  | _, _, 0, r => r
  | _, _, _ + 1, .nil => .nil
  | _, _, n + 1, .cons _ t => Vals.drop n t
theorem Vals.none_of : ∀ {xs : List V} {us : List Value} {i : Nat}, Vals xs us → xs[i]? = none → us[i]? = none := fun {xs us i} r e => by
  have h1 := r.length
  have h2 : xs.length ≤ i := List.getElem?_eq_none_iff.mp e
  exact List.getElem?_eq_none_iff.mpr (by omega)

def RelO : Option V → Option Value → Prop
  | some v, some u => RelV v u
  | none, none => True
  | _, _ => False
def KV {κ : Type} : List (κ × V) → List (κ × Value) → Prop := Paired fun (p : κ × V) (q : κ × Value) => p.1 = q.1 ∧ RelV p.2 q.2

/-- a key of a dict (00_mix): an int or a text -/
def kV : Key → V
  | .inl i => .int i
  | .inr x => .str x

/-- what stands at a tracked address -/
inductive HO where
  /-- a list -/
  | lst (xs : List V)
  /-- a tuple (never changes) -/
  | tup (xs : List V)
  /-- a dict whose keys are ints and texts; one whose keys are tuples of ints and texts (the empty one is both) -/
  | dK (kvs : List (Key × V)) | dT (kvs : List (List Key × V))
  /-- a set of ints: its members, its size -/
  | set (S : Int → Bool) (n : Nat)
  /-- an instance of the class at C, its dict at dx, its attributes -/
  | ins (C dx : Addr) (fs : List (Str × V))
  /-- the dict of the instance at x -/
  | own (x : Addr)
  /-- the dict of an exception -/
  | xd (fs : List (Str × V))
  /-- a bound method, f of x -/
  | met (f x : Addr)
  /-- a range object lo, lo + 1, .. below hi -/
  | rng (lo hi : Int)
  /-- a thing that is known to the object (the script; a dict while a loop walks it): read, never written while it is so -/
  | frz (o : Obj) (u : HO)
  /-- a code object's table -/
  | tbl (ps : Array Value)
  /-- any other thing, by what is true of its one object (a def of one's own: SetO a S n := HO.ext fun h => ..) -/
  | ext (φ : Heap → Prop)

abbrev Hp := Addr → Option HO
def upd (H : Hp) (a : Addr) (o : HO) : Hp := fun b => if b = a then some o else H b
theorem upd_same {H : Hp} {a : Addr} {o : HO} : upd H a o a = some o := by unfold upd; rw [if_pos rfl]
theorem upd_ne {H : Hp} {a b : Addr} {o : HO} (h : b ≠ a) : upd H a o b = H b := by unfold upd; rw [if_neg h]
/-- two objects of different content stand apart -/
theorem ne_of {H : Hp} {a b : Addr} {o u : HO} (h : H a = some o) (h' : H b = some u) (d : o ≠ u) : a ≠ b := by
  intro e; subst e; rw [h] at h'; exact d (Option.some.inj h')
theorem ne_of_none {H : Hp} {a b : Addr} {o : HO} (h : H a = some o) (h' : H b = none) : a ≠ b := by
  intro e; subst e; rw [h] at h'; cases h'

section
variable (P : Program) (w : World)
/-- a tuple's object, without a dict of its own -/
def TupN (h : Heap) (a : Addr) (items : Array Value) : Prop := ∃ o, h.get? a = some o ∧ (o.cls = .type "tuple" ∧ o.dict = none) ∧ ∃ n, o.data = .seq items n
theorem TupN.is {h : Heap} {a : Addr} {items : Array Value} (x : TupN h a items) : IsTup h a items := let ⟨o, e, c, n⟩ := x; ⟨o, e, c.1, n⟩
theorem TupN.lt {h : Heap} {a : Addr} {items : Array Value} (x : TupN h a items) : a < h.objs.size := x.is.lt
theorem TupN.new (h : Heap) (items : Array Value) : TupN (h.push { cls := .type "tuple", data := .seq items }) h.objs.size items := ⟨_, Heap.get?_push_size _ rfl, ⟨rfl, rfl⟩, _, rfl⟩

def ObjOk (H : Hp) (h : Heap) (a : Addr) : HO → Prop
  | .lst xs => xs.length ≤ sizeLine ∧ ∃ (its : List Value) (n : Nat), Vals xs its ∧ h.get? a = some { cls := .type "list", data := .seq its.toArray n }
  | .tup xs => xs.length ≤ sizeLine ∧ ∃ its : List Value, Vals xs its ∧ TupN h a its.toArray
  | .dK kvs => kvs.length ≤ sizeLine ∧ (a == sysModules) = false ∧ ∃ vs, KV kvs vs ∧ h.DictOf (mixKind P w) a vs
  | .dT kvs => kvs.length ≤ sizeLine ∧ (a == sysModules) = false ∧ ∃ xs : List (List Key × Addr × Value),
      Paired (fun (p : List Key × V) (q : List Key × Addr × Value) => p.1 = q.1 ∧ H q.2.1 = some (.tup (p.1.map kV)) ∧ RelV p.2 q.2.2) kvs xs ∧
      ∃ o es ep, h.get? a = some o ∧ o.ExactDict ∧ o.data = .dict es ep ∧ es.toList = xs.map (entryOfKey (tupleKind (mixKind P w))) ∧ (xs.map (·.1)).Nodup
  | .set S n => h.SetOf (intKind P w) a S n
  | .ins C dx fs => H dx = some (.own a) ∧ fs.length ≤ 1000 ∧ dx ≠ a ∧ h.get? a = some (PySem.W.instObj C dx) ∧
      ∃ mA, h.Ns1 dx mA ∧ (∀ f, RelO (fs.lookup f) (mA f)) ∧ PySem.Within mA (fs.map (·.1))
  | .own _ => ∃ o, h.get? a = some o
  | .xd fs => ∃ mA, h.Ns1 a mA ∧ ∀ f, RelO (fs.lookup f) (mA f)
  | .rng lo hi => ∃ t u v, h.get? a = some { cls := .type "range", data := .fields #[.int lo t, .int hi u, .int 1 v] }
  | .frz o u => h.get? a = some o ∧ ObjOk H h a u
  | .tbl ps => h.get? a = some { cls := .none, data := .fields ps }
  | .met f x => h.get? a = some (PySem.W.methodObj (.ref f) (.ref x))
  | .ext φ => φ h ∧ (∃ o, h.get? a = some o) ∧ ∀ h1 h2 : Heap, φ h1 → (∀ o, h1.get? a = some o → h2.get? a = some o) → φ h2
/-- the abstract heap is held -/
def HOk (H : Hp) (h : Heap) : Prop := ∀ a o, H a = some o → ObjOk P w H h a o
end

section
variable {P : Program} {w : World} {H H' : Hp} {h h' : Heap} {a : Addr} {o : HO}
theorem ObjOk.lt (x : ObjOk P w H h a o) : a < h.objs.size := by
  cases o with
  | lst xs => obtain ⟨_, _, _, _, e⟩ := x; exact Heap.lt_size e
  | tup xs => obtain ⟨_, _, _, p⟩ := x; exact p.lt
  | dK kvs => obtain ⟨_, _, _, _, o, _, _, e, _⟩ := x; exact Heap.lt_size e
  | dT kvs => obtain ⟨_, _, _, _, o, _, _, e, _⟩ := x; exact Heap.lt_size e
  | set S n => obtain ⟨o, _, _, _, e, _⟩ := x; exact Heap.lt_size e
  | ins C dx fs => obtain ⟨_, _, _, e, _⟩ := x; exact Heap.lt_size e
  | own y => obtain ⟨_, e⟩ := x; exact Heap.lt_size e
  | xd fs => obtain ⟨_, ⟨_, _, _, e, _⟩, _⟩ := x; exact Heap.lt_size e
  | rng lo hi => obtain ⟨_, _, _, e⟩ := x; exact Heap.lt_size e
  | frz ob u => obtain ⟨e, _⟩ := x; exact Heap.lt_size e
  | tbl ps => exact Heap.lt_size (show h.get? a = some _ from x)
  | met f y => exact Heap.lt_size (show h.get? a = some _ from x)
  | ext φ => obtain ⟨_, ⟨_, e⟩, _⟩ := x; exact Heap.lt_size e
theorem Paired.mapP {α β : Type} {F G : α → β → Prop} : ∀ {l₁ : List α} {l₂ : List β}, Paired F l₁ l₂ → (∀ a b, F a b → G a b) → Paired G l₁ l₂
  | _, _, .nil, _ => .nil
  | _, _, .cons r t, f => .cons (f _ _ r) (Paired.mapP t f)
/-- what an object's description leans on: its own object, its own dict, the tuples -/
theorem ObjOk.stay (x : ObjOk P w H h a o) (k : ∀ b u, (b = a ∨ H b = some (.own a)) → h.get? b = some u → h'.get? b = some u)
    (ho : ∀ b, H b = some (.own a) → H' b = some (.own a)) (ht : ∀ b xs, H b = some (.tup xs) → H' b = some (.tup xs)) : ObjOk P w H' h' a o := by
  induction o with
  | lst xs => obtain ⟨z, its, n, r, e⟩ := x; exact ⟨z, its, n, r, k _ _ (.inl rfl) e⟩
  | tup xs => obtain ⟨z, its, r, ob, e, c⟩ := x; exact ⟨z, its, r, ob, k _ _ (.inl rfl) e, c⟩
  | dK kvs => obtain ⟨z, y, vs, r, ob, es, ep, e, c⟩ := x; exact ⟨z, y, vs, r, ob, es, ep, k _ _ (.inl rfl) e, c⟩
  | dT kvs =>
    obtain ⟨z, y, xs, r, ob, es, ep, e, c⟩ := x
    exact ⟨z, y, xs, Paired.mapP r fun p q z => ⟨z.1, ht _ _ z.2.1, z.2.2⟩, ob, es, ep, k _ _ (.inl rfl) e, c⟩
  | set S n => obtain ⟨ob, es, ep, t, e, c⟩ := x; exact ⟨ob, es, ep, t, k _ _ (.inl rfl) e, c⟩
  | ins C dx fs =>
    obtain ⟨d, z, ne, e, mA, ⟨od, es, ep, e2, c⟩, r⟩ := x
    exact ⟨ho _ d, z, ne, k _ _ (.inl rfl) e, mA, ⟨od, es, ep, k _ _ (.inr d) e2, c⟩, r⟩
  | own y => obtain ⟨ob, e⟩ := x; exact ⟨ob, k _ _ (.inl rfl) e⟩
  | xd fs => obtain ⟨mA, ⟨od, es, ep, e, c⟩, r⟩ := x; exact ⟨mA, ⟨od, es, ep, k _ _ (.inl rfl) e, c⟩, r⟩
  | rng lo hi => obtain ⟨t, u, v, e⟩ := x; exact ⟨t, u, v, k _ _ (.inl rfl) e⟩
  | frz ob u ih => obtain ⟨e, q⟩ := x; exact ⟨k _ _ (.inl rfl) e, ih q⟩
  | tbl ps =>
    have e : h.get? a = some { cls := .none, data := .fields ps } := x
    show h'.get? a = some { cls := .none, data := .fields ps }
    exact k a _ (.inl rfl) e
  | met f y =>
    have e : h.get? a = some (PySem.W.methodObj (.ref f) (.ref y)) := x
    show h'.get? a = some (PySem.W.methodObj (.ref f) (.ref y))
    exact k a _ (.inl rfl) e
  | ext φ => obtain ⟨p, ⟨o, e⟩, st⟩ := x; exact ⟨st _ _ p fun o q => k _ _ (.inl rfl) q, ⟨o, k _ _ (.inl rfl) e⟩, st⟩
theorem HOk.lt (x : HOk P w H h) (e : H a = some o) : a < h.objs.size := (x a o e).lt
theorem HOk.fresh (x : HOk P w H h) (e : h.objs.size ≤ a) : H a = none := by
  cases q : H a with
  | none => rfl
  | some u => exact absurd (Nat.lt_of_lt_of_le (x.lt q) e) (Nat.lt_irrefl _)
/-- every object of the heap is kept -/
theorem HOk.kept (x : HOk P w H h) (k : ∀ b u, h.get? b = some u → h'.get? b = some u) : HOk P w H h' := fun a o e =>
  (x a o e).stay (fun b u _ q => k b u q) (fun _ q => q) fun _ _ q => q
/-- a new object is laid and tracked -/
theorem HOk.laid (x : HOk P w H h) (k : ∀ b u, h.get? b = some u → h'.get? b = some u) (hp : h.objs.size ≤ a) (new : ObjOk P w (upd H a o) h' a o) : HOk P w (upd H a o) h' := fun b u e => by
  have hn := x.fresh hp
  by_cases hb : b = a
  · subst hb; rw [upd_same] at e; cases e; exact new
  · rw [upd_ne hb] at e
    exact (x b u e).stay (fun c v _ q => k c v q) (fun c q => by rw [upd_ne (ne_of_none q hn)]; exact q) fun c xs q => by rw [upd_ne (ne_of_none q hn)]; exact q
end

/-- what may be read as u: it is u, or a known u -/
def Rd (H : Hp) (a : Addr) (u : HO) : Prop := H a = some u ∨ ∃ o, H a = some (.frz o u)
theorem Rd.of {H : Hp} {a : Addr} {u : HO} (h : H a = some u) : Rd H a u := .inl h
theorem Rd.ok {P : Program} {w : World} {H : Hp} {h : Heap} {a : Addr} {u : HO} (r : Rd H a u) (x : HOk P w H h) : ObjOk P w H h a u := by
  rcases r with r | ⟨o, r⟩
  · exact x a u r
  · obtain ⟨_, q⟩ := x a _ r
    exact q
/-- what may be written -/
def Mut : Option HO → Prop
  | some (.lst _) => True
  | some (.dK _) => True
  | some (.dT _) => True
  | some (.set _ _) => True
  | some (.ins _ _ _) => True
  | some (.ext _) => True
  | _ => False
section
variable {P : Program} {w : World} {H : Hp} {h h' : Heap} {x e : Addr} {o' : HO}
/-- the object at e is changed: x itself, or the dict of the instance x -/
theorem HOk.write (ok : HOk P w H h) (mu : Mut (H x)) (he : e = x ∨ H e = some (.own x)) (k : ∀ b u, b ≠ e → h.get? b = some u → h'.get? b = some u) (heo : ∃ u, h'.get? e = some u)
    (new : ObjOk P w (upd H x o') h' x o') : HOk P w (upd H x o') h' := fun b u q => by
  have nown : ∀ c y, H c = some (.own y) → c ≠ x := fun c y r z => by subst z; rw [r] at mu; exact mu
  have ntup : ∀ c xs, H c = some (.tup xs) → c ≠ x := fun c xs r z => by subst z; rw [r] at mu; exact mu
  by_cases hb : b = x
  · subst hb; rw [upd_same] at q; cases q; exact new
  · rw [upd_ne hb] at q
    by_cases hbe : b = e
    · have q' : H b = some (.own x) := by
        rcases he with z | z
        · exact absurd (hbe.trans z) hb
        · rw [hbe]; exact z
      rw [q] at q'; cases q'
      obtain ⟨v, hv⟩ := heo
      exact ⟨v, by rw [hbe]; exact hv⟩
    · refine (ok b u q).stay (fun c v hc r => k c v ?_ r) (fun c r => by rw [upd_ne (nown c b r)]; exact r) fun c xs r => by rw [upd_ne (ntup c xs r)]; exact r
      rcases hc with rfl | hc
      · exact hbe
      · rintro rfl
        rcases he with z | z
        · exact nown c b hc z
        · rw [hc] at z; cases z; exact hb rfl
end

/-! ### kept unless tracked; of the frames at fs (the callers') the slots may change (an exception that passes writes there); of the records at ex (iterators) nothing is said -/
structure Un (fs ex : List Addr) (H H' : Hp) (h h' : Heap) : Prop where
  keep : ∀ b o, h.get? b = some o → H b = none → b ∉ fs → b ∉ ex → h'.get? b = some o
  slot : ∀ b o, h.get? b = some o → H b = none → b ∈ fs → b ∉ ex → ∃ sl, h'.get? b = some { o with slots := sl }
  free : ∀ b o, h.get? b = some o → H b = none → b ∉ ex → H' b = none
  there : ∀ b o, h.get? b = some o → b ∉ ex → ∃ o', h'.get? b = some o'
  tups : ∀ b xs, H b = some (.tup xs) → H' b = some (.tup xs)
  frzs : ∀ b o u, H b = some (.frz o u) → H' b = some (.frz o u)
  tbls : ∀ b ps, H b = some (.tbl ps) → ∃ more, H' b = some (.tbl (ps ++ more))
section
variable {fs fs' ex ex' : List Addr} {H H1 H2 : Hp} {h h1 h2 h' : Heap} {a x e : Addr} {o : HO}
theorem Un.any (u : Un fs ex H H1 h h1) {b : Addr} {ob : Obj} (q : h.get? b = some ob) (n : H b = none) (hx : b ∉ ex) : ∃ sl, h1.get? b = some { ob with slots := sl } := by
  by_cases hb : b ∈ fs
  · exact u.slot b ob q n hb hx
  · exact ⟨ob.slots, u.keep b ob q n hb hx⟩
theorem Un.trans (a : Un fs ex H H1 h h1) (b : Un fs ex H1 H2 h1 h2) : Un fs ex H H2 h h2 where
  keep := fun c ob q n hc hx => b.keep c ob (a.keep c ob q n hc hx) (a.free c ob q n hx) hc hx
  slot := fun c ob q n hc hx => by
    obtain ⟨sl, e1⟩ := a.slot c ob q n hc hx
    obtain ⟨sl', e2⟩ := b.slot c _ e1 (a.free c ob q n hx) hc hx
    exact ⟨sl', e2⟩
  free := fun c ob q n hx => by
    obtain ⟨o', e1⟩ := a.there c ob q hx
    exact b.free c o' e1 (a.free c ob q n hx) hx
  there := fun c ob q hx => by
    obtain ⟨o', e1⟩ := a.there c ob q hx
    exact b.there c o' e1 hx
  tups := fun c xs q => b.tups c xs (a.tups c xs q)
  frzs := fun c ob xs q => b.frzs c ob xs (a.frzs c ob xs q)
  tbls := fun c ps q => by
    obtain ⟨m1, e1⟩ := a.tbls c ps q
    obtain ⟨m2, e2⟩ := b.tbls c _ e1
    exact ⟨m1 ++ m2, by rw [e2, Array.append_assoc]⟩
theorem Un.kept (k : ∀ b u, h.get? b = some u → h'.get? b = some u) : Un fs ex H H h h' :=
  ⟨fun b ob q _ _ _ => k b ob q, fun b ob q _ _ _ => ⟨ob.slots, k b ob q⟩, fun _ _ _ n _ => n, fun b ob q _ => ⟨ob, k b ob q⟩, fun _ _ q => q, fun _ _ _ q => q, fun _ ps q => ⟨#[], by rw [q]; simp⟩⟩
theorem Un.refl : Un fs ex H H h h := Un.kept fun _ _ q => q
theorem Un.laid (k : ∀ b u, h.get? b = some u → h'.get? b = some u) (hp : h.objs.size ≤ a) (hn : H a = none) : Un fs ex H (upd H a o) h h' where
  keep := fun b u q _ _ _ => k b u q
  slot := fun b u q _ _ _ => ⟨u.slots, k b u q⟩
  free := fun b u q n _ => by rw [upd_ne (Nat.ne_of_lt (Nat.lt_of_lt_of_le (Heap.lt_size q) hp))]; exact n
  there := fun b u q _ => ⟨u, k b u q⟩
  tups := fun b xs q => by rw [upd_ne (ne_of_none q hn)]; exact q
  frzs := fun b u xs q => by rw [upd_ne (ne_of_none q hn)]; exact q
  tbls := fun b ps q => ⟨#[], by rw [upd_ne (ne_of_none q hn), q]; simp⟩
theorem Un.write (mu : Mut (H x)) (he : e = x ∨ H e = some (.own x)) (k : ∀ b u, b ≠ e → h.get? b = some u → h'.get? b = some u) (heo : ∃ u, h'.get? e = some u) : Un fs ex H (upd H x o) h h' := by
  have hx : ∀ b, H b = none → b ≠ x := fun b n z => by subst z; rw [n] at mu; exact mu
  have hb : ∀ b, H b = none → b ≠ e := fun b n z => by
    subst z
    rcases he with r | r
    · exact hx b n r
    · rw [n] at r; cases r
  have hm : ∀ b u, H b = some u → ¬ Mut (some u) → b ≠ x := fun b u q nm z => by subst z; rw [q] at mu; exact nm mu
  refine ⟨fun b u q n _ _ => k b u (hb b n) q, fun b u q n _ _ => ⟨u.slots, k b u (hb b n) q⟩, fun b u q n _ => by rw [upd_ne (hx b n)]; exact n, fun b u q _ => ?_,
    fun b xs q => by rw [upd_ne (hm b _ q fun z => z)]; exact q, fun b u xs q => by rw [upd_ne (hm b _ q fun z => z)]; exact q, fun b ps q => ⟨#[], by rw [upd_ne (hm b _ q fun z => z), q]; simp⟩⟩
  by_cases hbe : b = e
  · subst hbe; exact heo
  · exact ⟨u, k b u hbe q⟩
theorem Un.mono (u : Un fs ex H H1 h h1) (hs : ∀ b ∈ fs, b ∈ fs') (hx : ∀ b ∈ ex, b ∈ ex') : Un fs' ex' H H1 h h1 :=
  ⟨fun b ob q n hb he => u.keep b ob q n (fun z => hb (hs b z)) fun z => he (hx b z), fun _ _ q n _ he => u.any q n fun z => he (hx _ z), fun b ob q n he => u.free b ob q n fun z => he (hx b z), fun b ob q he => u.there b ob q fun z => he (hx b z), u.tups, u.frzs, u.tbls⟩
end

/-! ### the heap without what is tracked -/
def trk (h : Heap) (H : Hp) : List Addr := (List.range h.objs.size).filter fun a => (H a).isSome
def hidT (h : Heap) (H : Hp) : Heap := PySem.W.hideAll h (trk h H)
theorem hidT_size (h : Heap) (H : Hp) : (hidT h H).objs.size = h.objs.size := PySem.W.hideAll_size _ _
theorem hidT_get {h : Heap} {H : Hp} {b : Addr} {o : Obj} (e : h.get? b = some o) (n : H b = none) : (hidT h H).get? b = some o :=
  PySem.W.hideAll_get _ e fun hm => by
    have q : (H b).isSome = true := (List.mem_filter.mp hm).2
    rw [n] at q; simp at q
theorem of_hidT {h : Heap} {H : Hp} {b : Addr} {o : Obj} (e : (hidT h H).get? b = some o) : h.get? b = some o ∧ H b = none := by
  have e' : h.get? b = some o := PySem.W.of_hideAll (trk h H) e
  refine ⟨e', ?_⟩
  cases q : H b with
  | none => rfl
  | some x =>
    have hm : b ∈ trk h H := List.mem_filter.mpr ⟨List.mem_range.mpr (Heap.lt_size e'), by simp [q]⟩
    have z : (hidT h H).get? b = none := PySem.W.hideAll_none (trk h H) hm
    rw [z] at e; cases e

/-! ### OpenK's ledger, filled with every new object but one -/
def allNews (g h : Heap) (L : Addr) : List (Addr × Obj) := (List.range h.objs.size).filterMap fun a => if a = L ∨ (g.get? a).isSome = true then none else (h.get? a).map fun o => (a, o)
def rest (g h : Heap) (L d : Addr) : List (Addr × Obj) := (allNews g h L).filter fun p => decide (p.1 ≠ d)
end L2

namespace L2
open PySem PySem.Spec PyProof.Rows

/-- the module's facts, over the base: the heap at the law's entry without what is tracked there -/
structure Mod (K : PySem.W.Frag) (mg : Str → Option Value) (base : Heap) : Prop where
  kin : K.In base
  glob : base.Ns mainGlobals mg
  blt : ∃ mb, base.Ns builtinsNs mb ∧ ∀ x : Str, x ≠ "__name__" → mb x = bootBuiltins x
  nolimit : base.NoLimit

/-- the context: a def's body (or a comprehension's block) running. base: fixed through the whole law; s₀, H₀: the entry; outer: the frames whose slots others may change (a def's callers); stack: all frames that run;
   ex: iterators that were made ahead of the entry and are walked here (a comprehension's); fn: the names whose cells were made at the entry (a def: all; a comprehension's block: its own); calm: not within an except suite; pn: pins that every state bears; xe: what is wanted of an exception that leaves the code -/
structure Cx where
  prog : Program
  w : World
  K : PySem.W.Frag
  mg : Str → Option Value
  base : Heap
  A : Around
  N : List Str
  s₀ : Shared
  H₀ : Hp
  env : Env
  outer : List Env
  stack : List Env
  ex : List Addr
  fn : Str → Bool
  calm : Bool
  pn : List (Addr × Obj)
  xe : Value → Shared → Prop
/-- the callers' frames -/
def frs (l : List Env) : List Addr := l.filterMap (·.frame)
abbrev Cx.fs (X : Cx) : List Addr := frs X.outer

def Vis (sc : Scope) (x : Str) : Prop := sc.names.lookup x = some .local ∨ sc.names.lookup x = some .cell ∨ sc.names.lookup x = some .free
def Loc (sc : Scope) (x : Str) : Prop := sc.names.lookup x = some .local ∨ sc.names.lookup x = some .cell
def Look (env : Env) (h : Heap) (m : Str → Option Value) (x : Str) (u : Value) : Prop :=
  (env.kindOf x = some .local ∧ m x = some u) ∨ ((env.kindOf x = some .cell ∨ env.kindOf x = some .free) ∧ ∃ c, env.cells.lookup x = some c ∧ h.IsCell c (some u))

structure Cx.Ok (X : Cx) : Prop where
  mod : Mod X.K X.mg X.base
  kind : X.env.scope.kind = .function
  glob : X.env.globals = mainGlobals
  blt : X.env.builtins = builtinsNs
  above : X.s₀.heap.objs.size ≤ X.env.locals
  inj : ∀ x y c, X.env.cells.lookup x = some c → X.env.cells.lookup y = some c → x = y
  has : ∀ x, (X.env.kindOf x = some .cell ∨ X.env.kindOf x = some .free) → ∃ c, X.env.cells.lookup x = some c
  cab : ∀ x c, X.fn x = true → X.env.cells.lookup x = some c → X.s₀.heap.objs.size ≤ c
  hd : X.calm = true → X.A.handled = none
  frames : X.A.frames = some X.stack
  stk : X.stack = X.outer ∨ (X.stack = X.env :: X.outer ∧ X.env.frame = some X.env.locals)
  exf : ∀ b ∈ X.ex, b ≠ X.env.locals ∧ ∀ x c, X.env.cells.lookup x = some c → c ≠ b
  bs : ∀ b o, X.base.get? b = some o → X.s₀.heap.get? b = some o ∧ X.H₀ b = none
  bsz : X.base.objs.size ≤ X.s₀.heap.objs.size
  noex : ∀ b o, X.base.get? b = some o → b ∉ X.ex
  exfs : ∀ b ∈ X.ex, b ∉ X.fs
  funs : X.s₀.heap.FunFrames X.base X.outer
  frf : ∀ b ∈ X.fs, X.H₀ b = none

structure Inv (X : Cx) (pins : List (Addr × Obj)) (σ : List (Option V)) (H : Hp) (s : Shared) : Prop where
  ok : X.Ok
  os : s.os = X.s₀.os
  bare : AllBare s.gens
  base : Un X.fs X.ex X.H₀ H X.s₀.heap s.heap
  loc : ∃ m, s.heap.Ns X.env.locals m ∧ ∀ (i : Nat) (x : Str) (v : V), X.N[i]? = some x → σ[i]? = some (some v) → Vis X.env.scope x → ∃ u, RelV v u ∧ Look X.env s.heap m x u
  cell : ∀ x c, X.env.cells.lookup x = some c → ∃ v, s.heap.IsCell c v
  free : H X.env.locals = none
  freeC : ∀ x c, X.env.cells.lookup x = some c → H c = none
  pin : ∀ p ∈ X.pn ++ pins, s.heap.get? p.1 = some p.2 ∧ H p.1 = none ∧ p.1 ≠ X.env.locals ∧ p.1 ∉ X.fs ∧ ∀ v, p.2.data ≠ .cell v
  hok : HOk X.prog X.w H s.heap
  len : σ.length = X.N.length

section
variable {X : Cx} {pins : List (Addr × Obj)} {σ : List (Option V)} {H H' : Hp} {s : Shared} {h' : Heap}

theorem Cx.Ok.nofr (ok : X.Ok) {b : Addr} {o : Obj} (e : X.base.get? b = some o) : b ∉ X.fs := fun hb => by
  have := (ok.funs.mem hb).1
  rw [e] at this; cases this
theorem Inv.bs (I : Inv X pins σ H s) : ∀ b o, X.base.get? b = some o → s.heap.get? b = some o ∧ H b = none := fun b o e =>
  ⟨I.base.keep b o (I.ok.bs b o e).1 (I.ok.bs b o e).2 (I.ok.nofr e) (I.ok.noex b o e), I.base.free b o (I.ok.bs b o e).1 (I.ok.bs b o e).2 (I.ok.noex b o e)⟩
theorem Inv.bk (I : Inv X pins σ H s) : ∀ b o, X.base.get? b = some o → s.heap.get? b = some o := fun b o e => (I.bs b o e).1
theorem Inv.mod (I : Inv X pins σ H s) : Mod X.K X.mg X.base := I.ok.mod
theorem Inv.kIn (I : Inv X pins σ H s) : X.K.In s.heap := I.ok.mod.kin.keeps I.bk
theorem Inv.nolimit (I : Inv X pins σ H s) : s.heap.NoLimit := I.ok.mod.nolimit.keeps I.bk
/-- the frame over the base: for OpenK's rules (K.In X.base is I.mod.kin) -/
theorem Inv.fr (I : Inv X pins σ H s) : ∃ m, Fr X.base X.env.locals s.heap m :=
  let ⟨m, hn, _⟩ := I.loc
  ⟨m, hn, I.bk, Nat.le_trans I.ok.bsz I.ok.above⟩
theorem Inv.lt (I : Inv X pins σ H s) : X.env.locals < s.heap.objs.size := let ⟨_, hn, _⟩ := I.loc; hn.lt
theorem Inv.sz (I : Inv X pins σ H s) : X.s₀.heap.objs.size ≤ s.heap.objs.size := Nat.le_trans I.ok.above (Nat.le_of_lt I.lt)
theorem Inv.nofs (I : Inv X pins σ H s) {a : Addr} (h : s.heap.objs.size ≤ a) : a ∉ X.fs := fun hb => by
  obtain ⟨_, o, ho, _⟩ := I.ok.funs.mem hb
  exact absurd (Nat.lt_of_lt_of_le (Heap.lt_size ho) (Nat.le_trans I.sz h)) (Nat.lt_irrefl _)
theorem Inv.cne (I : Inv X pins σ H s) : ∀ x c, X.env.cells.lookup x = some c → c ≠ X.env.locals := fun x c e z => by
  obtain ⟨v, o, ho, hd⟩ := I.cell x c e
  obtain ⟨m, ⟨o', es, ep, ho', hd', _⟩, _⟩ := I.loc
  rw [z, ho'] at ho; cases ho; rw [hd'] at hd; cases hd
theorem Inv.funs (I : Inv X pins σ H s) : s.heap.FunFrames X.base X.outer := by
  have all : ∀ (l : List Env), (∀ b ∈ frs l, b ∈ X.fs) → X.s₀.heap.FunFrames X.base l → s.heap.FunFrames X.base l := by
    intro l
    induction l with
    | nil => intro _ _; trivial
    | cons env r ih =>
      intro hs hl
      obtain ⟨hk, ⟨L, o, hf, hn, ho, hd⟩, hr⟩ := hl
      have hL : L ∈ X.fs := hs L (by unfold frs; rw [List.filterMap_cons, hf]; exact List.mem_cons_self)
      obtain ⟨sl, e⟩ := I.base.slot L o ho (I.ok.frf L hL) hL fun z => I.ok.exfs L z hL
      exact ⟨hk, ⟨L, _, hf, hn, e, hd⟩, ih (fun b hb => hs b (by unfold frs; rw [List.filterMap_cons, hf]; exact List.mem_cons_of_mem _ hb)) hr⟩
  exact all X.outer (fun _ hb => hb) I.ok.funs

/-- the frames that run, for a call -/
theorem Inv.stack (I : Inv X pins σ H s) : s.heap.FunFrames X.base X.stack := by
  rcases I.ok.stk with e | ⟨e, hf⟩
  · rw [e]; exact I.funs
  · rw [e]
    obtain ⟨m, hn, _⟩ := I.loc
    refine .cons (by rw [I.ok.kind]; decide) hf hn ?_ I.funs
    exact Heap.get?_none_of_le (Nat.le_trans I.ok.bsz I.ok.above)
theorem Inv.stkSub (I : Inv X pins σ H s) : ∀ b ∈ frs X.stack, b ∈ X.env.locals :: X.fs := fun b hb => by
  rcases I.ok.stk with e | ⟨e, hf⟩
  · rw [e] at hb; exact List.mem_cons_of_mem _ hb
  · rw [e] at hb
    unfold frs at hb
    rw [List.filterMap_cons, hf] at hb
    exact hb
theorem Inv.stkFree (I : Inv X pins σ H s) : ∀ b ∈ frs X.stack, H b = none := fun b hb => by
  rcases List.mem_cons.mp (I.stkSub b hb) with e | hb
  · rw [e]; exact I.free
  · obtain ⟨_, o, ho, _⟩ := I.ok.funs.mem hb
    exact I.base.free b o ho (I.ok.frf b hb) fun z => I.ok.exfs b z hb

/-- THE STEP: the untracked objects but the frame and the records at ch are kept (the callers' frames up to slots), the frame's map is kept, the new abstract heap is held -/
theorem Inv.step {g' : Array GenState} {t' : Nat} {d' : Drawn} {ch : List Addr} (I : Inv X pins σ H s)
    (hch : ∀ b ∈ ch, (b ∈ X.ex ∨ X.s₀.heap.objs.size ≤ b) ∧ b ≠ X.env.locals ∧ (∀ x c, X.env.cells.lookup x = some c → c ≠ b) ∧ ∀ p ∈ X.pn ++ pins, p.1 ≠ b)
    (keep : ∀ b o, b ≠ X.env.locals → b ∉ X.fs → b ∉ ch → s.heap.get? b = some o → H b = none → h'.get? b = some o)
    (slot : ∀ b o, b ≠ X.env.locals → b ∈ X.fs → b ∉ ch → s.heap.get? b = some o → H b = none → ∃ sl, h'.get? b = some { o with slots := sl }) (free : ∀ b o, b ∉ ch → s.heap.get? b = some o → H b = none → H' b = none)
    (there : ∀ b o, b ∉ ch → s.heap.get? b = some o → ∃ o', h'.get? b = some o')
    (tups : ∀ b xs, H b = some (.tup xs) → H' b = some (.tup xs)) (frzs : ∀ b o u, H b = some (.frz o u) → H' b = some (.frz o u)) (tbls : ∀ b ps, H b = some (.tbl ps) → ∃ more, H' b = some (.tbl (ps ++ more)))
    (ns : ∀ m, s.heap.Ns X.env.locals m → h'.Ns X.env.locals m) (hok : HOk X.prog X.w H' h') (hg : AllBare g') :
    Inv X pins σ H' { s with heap := h', gens := g', drawn := d', toks := t' } := by
  have neL : ∀ b o, X.s₀.heap.get? b = some o → b ≠ X.env.locals := fun b o e => Nat.ne_of_lt (Nat.lt_of_lt_of_le (Heap.lt_size e) I.ok.above)
  have neC : ∀ b o, X.s₀.heap.get? b = some o → b ∉ X.ex → b ∉ ch := fun b o e hx hb => by
    rcases (hch b hb).1 with z | z
    · exact hx z
    · exact absurd (Nat.lt_of_lt_of_le (Heap.lt_size e) z) (Nat.lt_irrefl _)
  have cellK : ∀ x c, X.env.cells.lookup x = some c → ∀ v, s.heap.IsCell c v → h'.IsCell c v := fun x c e v ⟨o, ho, hd⟩ => by
    have nch : c ∉ ch := fun z => (hch c z).2.2.1 x c e rfl
    by_cases hc : c ∈ X.fs
    · obtain ⟨sl, q⟩ := slot c o (I.cne x c e) hc nch ho (I.freeC x c e)
      exact ⟨_, q, hd⟩
    · exact ⟨o, keep c o (I.cne x c e) hc nch ho (I.freeC x c e), hd⟩
  refine ⟨I.ok, I.os, hg, ⟨fun b o e n hb hx => ?_, fun b o e n hb hx => ?_, fun b o e n hx => ?_, fun b o e hx => ?_, fun b xs e => tups b xs (I.base.tups b xs e), fun b o xs e => frzs b o xs (I.base.frzs b o xs e), fun b ps e => ?_⟩, ?_, fun x c e => ?_, ?_, fun x c e => ?_, fun p hp => ?_, hok, I.len⟩
  · exact keep b o (neL b o e) hb (neC b o e hx) (I.base.keep b o e n hb hx) (I.base.free b o e n hx)
  · obtain ⟨sl, e1⟩ := I.base.slot b o e n hb hx
    obtain ⟨sl', e2⟩ := slot b _ (neL b o e) hb (neC b o e hx) e1 (I.base.free b o e n hx)
    exact ⟨sl', e2⟩
  · obtain ⟨o', e1⟩ := I.base.there b o e hx
    exact free b o' (neC b o e hx) e1 (I.base.free b o e n hx)
  · obtain ⟨o', e1⟩ := I.base.there b o e hx
    exact there b o' (neC b o e hx) e1
  · obtain ⟨m1, e1⟩ := I.base.tbls b ps e
    obtain ⟨m2, e2⟩ := tbls b _ e1
    exact ⟨m1 ++ m2, by rw [e2, Array.append_assoc]⟩
  · obtain ⟨m, hn, hl⟩ := I.loc
    refine ⟨m, ns m hn, fun i x v e1 e2 e3 => ?_⟩
    obtain ⟨u, r, l⟩ := hl i x v e1 e2 e3
    refine ⟨u, r, ?_⟩
    rcases l with l | ⟨k, c, e, z⟩
    · exact .inl l
    · exact .inr ⟨k, c, e, cellK x c e _ z⟩
  · obtain ⟨v, z⟩ := I.cell x c e
    exact ⟨v, cellK x c e v z⟩
  · obtain ⟨m, ⟨o, _, _, ho, _⟩, _⟩ := I.loc
    exact free _ o (fun z => (hch _ z).2.1 rfl) ho I.free
  · obtain ⟨v, o, ho, hd⟩ := I.cell x c e
    exact free c o (fun z => (hch c z).2.2.1 x c e rfl) ho (I.freeC x c e)
  · obtain ⟨e, n, ne, nf, d⟩ := I.pin p hp
    have nch : p.1 ∉ ch := fun z => (hch p.1 z).2.2.2 p hp rfl
    exact ⟨keep p.1 p.2 ne nf nch e n, free p.1 p.2 nch e n, ne, nf, d⟩
/-- .. where the frame's own object is kept too -/
theorem Inv.un {t' : Nat} (I : Inv X pins σ H s) (u : Un X.fs [] H H' s.heap h') (hok : HOk X.prog X.w H' h') : Inv X pins σ H' { s with heap := h', toks := t' } := by
  obtain ⟨m, ⟨o, es, ep, ho, r⟩, _⟩ := id I.loc
  obtain ⟨sl, hL⟩ := u.any ho I.free (by simp)
  exact I.step (g' := s.gens) (d' := s.drawn) (ch := []) (fun _ z => nomatch z) (fun b o _ hb _ e n => u.keep b o e n hb (by simp)) (fun b o _ hb _ e n => u.slot b o e n hb (by simp)) (fun b o _ e n => u.free b o e n (by simp)) (fun b o _ e => u.there b o e (by simp)) u.tups u.frzs u.tbls (fun m' hm => by
    obtain ⟨o', es', ep', ho', r'⟩ := hm
    rw [ho] at ho'; cases ho'
    exact ⟨_, es', ep', hL, r'⟩) hok I.bare
/-- behind a call (or a comprehension's block): the slots of this frame may have changed too, the records at ch may have turned -/
theorem Inv.call {g' : Array GenState} {t' : Nat} {d' : Drawn} {ch : List Addr} (I : Inv X pins σ H s) (u : Un (frs X.stack) ch H H' s.heap h') (hok : HOk X.prog X.w H' h') (hg : AllBare g')
    (hch : ∀ b ∈ ch, (b ∈ X.ex ∨ X.s₀.heap.objs.size ≤ b) ∧ b ≠ X.env.locals ∧ (∀ x c, X.env.cells.lookup x = some c → c ≠ b) ∧ ∀ p ∈ X.pn ++ pins, p.1 ≠ b) :
    Inv X pins σ H' { s with heap := h', gens := g', drawn := d', toks := t' } := by
  obtain ⟨m, ⟨o, es, ep, ho, r⟩, _⟩ := id I.loc
  obtain ⟨sl, hL⟩ := u.any ho I.free fun z => (hch _ z).2.1 rfl
  exact I.step (ch := ch) hch (fun b o hL hb hc e n => u.keep b o e n (fun z => (List.mem_cons.mp (I.stkSub b z)).elim hL hb) hc) (fun b o _ _ hc e n => u.any e n hc) (fun b o hc e n => u.free b o e n hc) (fun b o hc e => u.there b o e hc) u.tups u.frzs u.tbls (fun m' hm => by
    obtain ⟨o', es', ep', ho', r'⟩ := hm
    rw [ho] at ho'; cases ho'
    exact ⟨_, es', ep', hL, r'⟩) hok hg
/-- an untracked record of ours (an iterator) has turned -/
theorem Inv.turned {t' : Nat} {it : Addr} (I : Inv X pins σ H s) (k : ∀ b o, b ≠ it → s.heap.get? b = some o → h'.get? b = some o) (hn : H it = none) (hL : it ≠ X.env.locals)
    (h1 : it ∈ X.ex ∨ X.s₀.heap.objs.size ≤ it) (h2 : ∀ x c, X.env.cells.lookup x = some c → c ≠ it) (h3 : ∀ p ∈ X.pn ++ pins, p.1 ≠ it) : Inv X pins σ H { s with heap := h', toks := t' } := by
  have nit : ∀ b u, H b = some u → b ≠ it := fun b u e z => by rw [z, hn] at e; cases e
  refine I.step (g' := s.gens) (d' := s.drawn) (ch := [it]) (fun b hb => ?_) (fun b o _ _ hc e _ => k b o (fun z => hc (by simp [z])) e) (fun b o _ _ hc e _ => ⟨o.slots, k b o (fun z => hc (by simp [z])) e⟩) (fun _ _ _ _ n => n)
    (fun b o hc e => ⟨o, k b o (fun z => hc (by simp [z])) e⟩) (fun _ _ e => e) (fun _ _ _ e => e) (fun b ps e => ⟨#[], by rw [e]; simp⟩) (fun m hm => ?_) (fun b u e => ?_) I.bare
  · have e : b = it := by simpa using hb
    subst e
    exact ⟨h1, hL, h2, h3⟩
  · obtain ⟨o, es, ep, ho, r⟩ := hm
    exact ⟨o, es, ep, k _ o (Ne.symm hL) ho, r⟩
  · refine (I.hok b u e).stay (fun c v hc q => k c v ?_ q) (fun _ q => q) fun _ _ q => q
    rcases hc with z | z
    · rw [z]; exact nit b u e
    · exact nit c _ z
theorem Inv.tok (I : Inv X pins σ H s) (t : Nat) : Inv X pins σ H { s with toks := t } := I.un (h' := s.heap) (t' := t) Un.refl I.hok
/-- all objects kept -/
theorem Inv.kept {t' : Nat} (I : Inv X pins σ H s) (k : ∀ b u, s.heap.get? b = some u → h'.get? b = some u) : Inv X pins σ H { s with heap := h', toks := t' } := I.un (Un.kept k) (I.hok.kept k)
/-- a new object laid and tracked -/
theorem Inv.laid {a : Addr} {o : HO} {t' : Nat} (I : Inv X pins σ H s) (k : ∀ b u, s.heap.get? b = some u → h'.get? b = some u) (hp : s.heap.objs.size ≤ a) (new : ObjOk X.prog X.w (upd H a o) h' a o) :
    Inv X pins σ (upd H a o) { s with heap := h', toks := t' } := I.un (Un.laid k hp (I.hok.fresh hp)) (I.hok.laid k hp new)
/-- an object written -/
theorem Inv.write {x e : Addr} {o : HO} {t' : Nat} (I : Inv X pins σ H s) (mu : Mut (H x)) (he : e = x ∨ H e = some (.own x)) (k : ∀ b u, b ≠ e → s.heap.get? b = some u → h'.get? b = some u) (heo : ∃ u, h'.get? e = some u)
    (new : ObjOk X.prog X.w (upd H x o) h' x o) : Inv X pins σ (upd H x o) { s with heap := h', toks := t' } := I.un (Un.write mu he k heo) (I.hok.write mu he k heo new)
theorem Inv.pins_of {pins' : List (Addr × Obj)} (I : Inv X pins σ H s) (h : ∀ p ∈ pins', s.heap.get? p.1 = some p.2 ∧ H p.1 = none ∧ p.1 ≠ X.env.locals ∧ p.1 ∉ X.fs ∧ ∀ v, p.2.data ≠ .cell v) : Inv X pins' σ H s :=
  ⟨I.ok, I.os, I.bare, I.base, I.loc, I.cell, I.free, I.freeC, fun p hp => (List.mem_append.mp hp).elim (fun z => I.pin p (List.mem_append_left _ z)) (h p), I.hok, I.len⟩

theorem nodup_ix {N : List Str} (hN : N.Nodup) {i j : Nat} {x : Str} (a : N[i]? = some x) (b : N[j]? = some x) : i = j := by
  obtain ⟨h1, e1⟩ := List.getElem?_eq_some_iff.mp a
  obtain ⟨h2, e2⟩ := List.getElem?_eq_some_iff.mp b
  exact (List.getElem_inj hN).mp (e1.trans e2.symm)

/-- a name is stored; what changed -/
theorem store_ok2 {M : Model} {A : Around} {E : Value → Shared → Prop} {i : Nat} {x : Str} {v : V} {u : Value} {Q : Unit → Shared → Prop} (I : Inv X pins σ H s) (hN : X.N.Nodup) (hi : X.N[i]? = some x) (hx : Loc X.env.scope x) (r : RelV v u)
    (h : ∀ s', Inv X pins (σ.set i (some v)) H s' → (∃ a, Heap.SameBut a s.heap s'.heap ∧ (a = X.env.locals ∨ X.env.cells.lookup x = some a)) → Q () s') (hf : X.fn x = true ∨ X.env.scope.names.lookup x = some .local := by first | exact .inl rfl | exact .inr rfl | assumption) : wpAny M A (storeName X.env x u) Q E s := by
  obtain ⟨m, hn, hl⟩ := id I.loc
  have hcls : (X.env.scope.kind == .class || (X.env.scope.kind == .module && X.env.locals != X.env.globals)) = false := by rw [I.ok.kind]; rfl
  have hiσ : i < σ.length := by rw [I.len]; exact (List.getElem?_eq_some_iff.mp hi).1
  have cne := I.cne
  have tracked : ∀ {a : Addr} {h' : Heap}, (∃ o, s.heap.get? a = some o ∧ H a = none) → Heap.SameBut a s.heap h' → HOk X.prog X.w H h' := fun {a h'} ha hs b ob e => by
    obtain ⟨_, _, hfree⟩ := ha
    refine (I.hok b ob e).stay (fun c w' hc q => (hs.2 c ?_).trans q) (fun _ q => q) fun _ _ q => q
    rintro rfl
    rcases hc with rfl | hc
    · rw [hfree] at e; cases e
    · rw [hfree] at hc; cases hc
  rcases hx with hk | hk
  · refine wpAny_storeName_local hk hn (fun h' hn' hs => ?_) hcls
    obtain ⟨oL, _, _, hoL, _⟩ := id hn
    refine h _ ⟨I.ok, I.os, I.bare, ⟨fun b o e n hb hx => ?_, fun b o e n hb hx => ?_, I.base.free, fun b o e hx => ?_, I.base.tups, I.base.frzs, I.base.tbls⟩, ⟨_, hn', fun j y v' e1 e2 e3 => ?_⟩, fun y c e => ?_, I.free, I.freeC, fun p hp => ?_, tracked ⟨oL, hoL, I.free⟩ hs, by simpa using I.len⟩ ⟨_, hs, .inl rfl⟩
    · exact (hs.2 b (Nat.ne_of_lt (Nat.lt_of_lt_of_le (Heap.lt_size e) I.ok.above))).trans (I.base.keep b o e n hb hx)
    · obtain ⟨sl, e1⟩ := I.base.slot b o e n hb hx
      exact ⟨sl, (hs.2 b (Nat.ne_of_lt (Nat.lt_of_lt_of_le (Heap.lt_size e) I.ok.above))).trans e1⟩
    · obtain ⟨o', e1⟩ := I.base.there b o e hx
      exact ⟨o', (hs.2 b (Nat.ne_of_lt (Nat.lt_of_lt_of_le (Heap.lt_size e) I.ok.above))).trans e1⟩
    · by_cases hj : j = i
      · subst hj
        rw [hi] at e1; cases e1
        rw [List.getElem?_set_self hiσ] at e2
        cases e2
        exact ⟨u, r, .inl ⟨hk, by simp⟩⟩
      · rw [List.getElem?_set_ne (Ne.symm hj)] at e2
        obtain ⟨u', r', q⟩ := hl j y v' e1 e2 e3
        refine ⟨u', r', ?_⟩
        rcases q with ⟨k, e⟩ | ⟨k, c, e, z⟩
        · refine .inl ⟨k, ?_⟩
          have : y ≠ x := fun e => hj (nodup_ix hN e1 (e ▸ hi))
          simp [this, e]
        · exact .inr ⟨k, c, e, z.sameBut hs (cne y c e)⟩
    · obtain ⟨w', z⟩ := I.cell y c e
      exact ⟨w', z.sameBut hs (cne y c e)⟩
    · obtain ⟨e, n, ne, nf, d⟩ := I.pin p hp
      exact ⟨(hs.2 p.1 ne).trans e, n, ne, nf, d⟩
  · have hfn : X.fn x = true := by
      rcases hf with z | z
      · exact z
      · rw [z] at hk; cases hk
    obtain ⟨c, hc⟩ := I.ok.has x (.inl hk)
    obtain ⟨w', z⟩ := I.cell x c hc
    refine wpAny_storeName_cell I.ok.kind hk hc z (fun h' hc' hs => ?_)
    obtain ⟨oc, hoc, hocd⟩ := id z
    refine h { s with heap := h' } ⟨I.ok, I.os, I.bare, ⟨fun b o e n hb hx => ?_, fun b o e n hb hx => ?_, I.base.free, fun b o e hx => ?_, I.base.tups, I.base.frzs, I.base.tbls⟩, ⟨m, hn.sameBut hs (Ne.symm (cne x c hc)), fun j y v' e1 e2 e3 => ?_⟩, fun y c' e => ?_, I.free, I.freeC, fun p hp => ?_, tracked ⟨oc, hoc, I.freeC x c hc⟩ hs, by simpa using I.len⟩ ⟨c, hs, .inr hc⟩
    · exact (hs.2 b (Nat.ne_of_lt (Nat.lt_of_lt_of_le (Heap.lt_size e) (I.ok.cab x c hfn hc)))).trans (I.base.keep b o e n hb hx)
    · obtain ⟨sl, e1⟩ := I.base.slot b o e n hb hx
      exact ⟨sl, (hs.2 b (Nat.ne_of_lt (Nat.lt_of_lt_of_le (Heap.lt_size e) (I.ok.cab x c hfn hc)))).trans e1⟩
    · obtain ⟨o', e1⟩ := I.base.there b o e hx
      exact ⟨o', (hs.2 b (Nat.ne_of_lt (Nat.lt_of_lt_of_le (Heap.lt_size e) (I.ok.cab x c hfn hc)))).trans e1⟩
    · by_cases hj : j = i
      · subst hj
        rw [hi] at e1; cases e1
        rw [List.getElem?_set_self hiσ] at e2
        cases e2
        exact ⟨u, r, .inr ⟨.inl hk, c, hc, hc'⟩⟩
      · rw [List.getElem?_set_ne (Ne.symm hj)] at e2
        obtain ⟨u', r', q⟩ := hl j y v' e1 e2 e3
        refine ⟨u', r', ?_⟩
        rcases q with q | ⟨k, c', e, z'⟩
        · exact .inl q
        · refine .inr ⟨k, c', e, z'.sameBut hs ?_⟩
          rintro rfl
          exact hj (nodup_ix hN e1 (I.ok.inj _ _ _ e hc ▸ hi))
    · by_cases hcc : c' = c
      · subst hcc; exact ⟨_, hc'⟩
      · obtain ⟨w2, z2⟩ := I.cell y c' e
        exact ⟨w2, z2.sameBut hs hcc⟩
    · obtain ⟨e, n, ne, nf, d⟩ := I.pin p hp
      refine ⟨(hs.2 p.1 ?_).trans e, n, ne, nf, d⟩
      intro q
      rw [q, hoc] at e
      have q' : oc = p.2 := Option.some.inj e
      exact d w' (by rw [← q']; exact hocd)
theorem store_ok {M : Model} {A : Around} {E : Value → Shared → Prop} {i : Nat} {x : Str} {v : V} {u : Value} {Q : Unit → Shared → Prop} (I : Inv X pins σ H s) (hN : X.N.Nodup) (hi : X.N[i]? = some x) (hx : Loc X.env.scope x) (r : RelV v u)
    (h : ∀ s', Inv X pins (σ.set i (some v)) H s' → Q () s') (hf : X.fn x = true ∨ X.env.scope.names.lookup x = some .local := by first | exact .inl rfl | exact .inr rfl | assumption) : wpAny M A (storeName X.env x u) Q E s :=
  store_ok2 I hN hi hx r (fun s' I' _ => h s' I') hf
/-- behind a call or a block, the state as it is -/
theorem Inv.call' {s' : Shared} {ch : List Addr} (I : Inv X pins σ H s) (ho : s'.os = s.os) (u : Un (frs X.stack) ch H H' s.heap s'.heap) (hok : HOk X.prog X.w H' s'.heap) (hg : AllBare s'.gens)
    (hch : ∀ b ∈ ch, (b ∈ X.ex ∨ X.s₀.heap.objs.size ≤ b) ∧ b ≠ X.env.locals ∧ (∀ x c, X.env.cells.lookup x = some c → c ≠ b) ∧ ∀ p ∈ X.pn ++ pins, p.1 ≠ b) : Inv X pins σ H' s' := by
  obtain ⟨h', g', d', t', o'⟩ := s'
  have e : o' = s.os := ho
  subst e
  exact I.call (g' := g') (t' := t') (d' := d') u hok hg hch
end

/-! ### the judgements -/
/-- an exception: its class, its own dict's address (where it has one), the abstract heap behind it -/
abbrev XK := Value → Option Addr → Hp → Prop
abbrev St := List (Option V)
abbrev VK := V → Hp → Prop
/-- an expression's reading; a test's; an argument list's -/
abbrev TE := St → Hp → VK → Prop
abbrev TT := St → Hp → (Bool → Hp → Prop) → Prop
abbrev TA := St → Hp → (List V → Hp → Prop) → Prop
/-- what is wanted behind a statement -/
structure Ends where
  nx : St → Hp → Prop
  rt : VK
  bk : St → Hp → Prop := fun _ _ => False
  ct : St → Hp → Prop := fun _ _ => False
abbrev TS := Ends → St → Hp → Prop

def EP (X : Cx) (pins : List (Addr × Obj)) (σ : St) (Q : VK) (u : Value) (s' : Shared) : Prop := ∃ v H', Inv X pins σ H' s' ∧ RelV v u ∧ Q v H'
def TP (X : Cx) (pins : List (Addr × Obj)) (σ : St) (Q : Bool → Hp → Prop) (b : Bool) (s' : Shared) : Prop := ∃ H', Inv X pins σ H' s' ∧ Q b H'
def AP (X : Cx) (pins : List (Addr × Obj)) (σ : St) (Q : List V → Hp → Prop) (us : List Value) (s' : Shared) : Prop := ∃ vs H', Inv X pins σ H' s' ∧ Vals vs us ∧ Q vs H'
def SP (X : Cx) (pins : List (Addr × Obj)) (D : Ends) (f : Flow) (s' : Shared) : Prop :=
  match f with
  | .next => ∃ σ' H', Inv X pins σ' H' s' ∧ D.nx σ' H'
  | .brk => ∃ σ' H', Inv X pins σ' H' s' ∧ D.bk σ' H'
  | .cont => ∃ σ' H', Inv X pins σ' H' s' ∧ D.ct σ' H'
  | .ret u => ∃ v σ' H', Inv X pins σ' H' s' ∧ RelV v u ∧ D.rt v H'

def PE (X : Cx) (e : Expr) (t : TE) : Prop :=
  ∀ (pins : List (Addr × Obj)) (s : Shared) (σ : St) (H : Hp) (Q : VK), Inv X pins σ H s → t σ H Q → wpAny (model X.prog X.w) X.A (eval e X.env) (EP X pins σ Q) X.xe s
def PT (X : Cx) (e : Expr) (t : TT) : Prop :=
  ∀ (pins : List (Addr × Obj)) (s : Shared) (σ : St) (H : Hp) (Q : Bool → Hp → Prop), Inv X pins σ H s → t σ H Q → wpAny (model X.prog X.w) X.A (isTrue e X.env (eval e X.env)) (TP X pins σ Q) X.xe s
/-- a test whatever its 'whole' is (and, or) -/
def PW (X : Cx) (e : Expr) (t : TT) : Prop :=
  ∀ (whole : Sem Value) (pins : List (Addr × Obj)) (s : Shared) (σ : St) (H : Hp) (Q : Bool → Hp → Prop), Inv X pins σ H s → t σ H Q → wpAny (model X.prog X.w) X.A (isTrue e X.env whole) (TP X pins σ Q) X.xe s
theorem PW.pt {X : Cx} {e : Expr} {t : TT} (h : PW X e t) : PT X e t := h _
/-- an argument list (no star), from the left -/
def PA (X : Cx) (es : List Expr) (t : TA) : Prop :=
  ∀ (pos : Pos) (pins : List (Addr × Obj)) (s : Shared) (σ : St) (H : Hp) (Q : List V → Hp → Prop), Inv X pins σ H s → t σ H Q → wpAny (model X.prog X.w) X.A (spliced (backTo pos (starEach es X.env))) (AP X pins σ Q) X.xe s
def PS (X : Cx) (st : Stmt) (t : TS) : Prop :=
  ∀ (pins : List (Addr × Obj)) (s : Shared) (σ : St) (H : Hp) (D : Ends), Inv X pins σ H s → t D σ H → wpAny (model X.prog X.w) X.A (exec st X.env) (SP X pins D) X.xe s
def PSs (X : Cx) (st : List Stmt) (t : TS) : Prop :=
  ∀ (pins : List (Addr × Obj)) (s : Shared) (σ : St) (H : Hp) (D : Ends), Inv X pins σ H s → t D σ H → wpAny (model X.prog X.w) X.A (execs st X.env) (SP X pins D) X.xe s
/-- weaken the end -/
theorem thn {α : Type} {t : Sem α} {Q Q' : α → Shared → Prop} {M : Model} {A : Around} {E : Value → Shared → Prop} {s : Shared} (h : wpAny M A t Q E s) (hQ : ∀ a s, Q a s → Q' a s) : wpAny M A t Q' E s := wpAny_mono h hQ fun _ _ x => x
end L2

namespace L2
open PySem PySem.Spec PyProof.Rows
section
variable {X : Cx}


/-! ### names and constants -/
def tVar (i : Nat) : TE := fun σ H Q => ∃ v, σ[i]? = some (some v) ∧ Q v H
def tC (v : V) : TE := fun _ H Q => Q v H
theorem pe_var {i : Nat} {x : Str} {pos : Pos} (hN : X.N[i]? = some x) (hv : Vis X.env.scope x) (hd : (x == ("__debug__" : Str)) = false := by decide) (hcd : (x == ("__classdict__" : Str)) = false := by decide) : PE X (.Name x pos) (tVar i) := by
  intro pins s σ H Q I h
  obtain ⟨v, e, h⟩ := h
  obtain ⟨m, hn, hl⟩ := I.loc
  obtain ⟨u, r, l⟩ := hl i x v hN e hv
  have fin : EP X pins σ Q u s := ⟨v, H, I, r, h⟩
  rcases l with ⟨hk, hm⟩ | ⟨hk, c, hc, hcell⟩
  · exact wpAny_Name (wpAny_loadName_local I.ok.kind hk hn hm fin) hd
  · rcases hk with hk | hk
    · exact wpAny_Name (wpAny_loadName_cell I.ok.kind hk hc hcell fin) hd
    · exact wpAny_Name (wpAny_loadName_free I.ok.kind hk hc hcell fin hcd) hd
theorem pe_int {i j pos} : PE X (.Constant (.int i) j pos) (tC (.int i)) := fun _ _ _ H _ I h => wpAny_Constant_int ⟨.int i, H, I.tok _, ⟨_, rfl⟩, h⟩
theorem pe_bl {b j pos} : PE X (.Constant (.bool b) j pos) (tC (.bl b)) := fun _ _ _ H _ I h => Constant_bool ⟨.bl b, H, I, rfl, h⟩
theorem pe_non {j pos} : PE X (.Constant .none j pos) (tC .non) := fun _ _ _ H _ I h => Constant_none ⟨.non, H, I, rfl, h⟩
theorem pe_str {x j pos} : PE X (.Constant (.str x) j pos) (tC (.str x)) := fun _ _ _ H _ I h => Calls.Constant_str ⟨.str x, H, I.tok _, ⟨_, rfl⟩, h⟩

/-- a global name of the def -/
def Gl (X : Cx) (x : Str) : Prop := X.env.kindOf x = some .globalImplicit
theorem ld_glob {E : Value → Shared → Prop} {pins : List (Addr × Obj)} {s : Shared} {σ : St} {H : Hp} {x : Str} {u : Value} {pos : Pos} {Q : Value → Shared → Prop} (I : Inv X pins σ H s) (hg : Gl X x) (hm : X.mg x = some u) (h : Q u s)
    (hd : (x == ("__debug__" : Str)) = false := by decide) : wpAny (model X.prog X.w) X.A (eval (.Name x pos) X.env) Q E s :=
  Calls.Name_function_global I.ok.kind hg (Calls.loadGlobal_global (by rw [I.ok.glob]; exact I.mod.glob.keeps I.bk) hm h) hd
theorem ld_blt {E : Value → Shared → Prop} {pins : List (Addr × Obj)} {s : Shared} {σ : St} {H : Hp} {x : Str} {u : Value} {pos : Pos} {Q : Value → Shared → Prop} (I : Inv X pins σ H s) (hg : Gl X x) (hm : X.mg x = none) (hv : bootBuiltins x = some u) (h : Q u s)
    (hn : x ≠ "__name__" := by decide) (hd : (x == ("__debug__" : Str)) = false := by decide) : wpAny (model X.prog X.w) X.A (eval (.Name x pos) X.env) Q E s := by
  obtain ⟨mb, h1, h2⟩ := I.mod.blt
  exact Calls.Name_function_global I.ok.kind hg (Calls.loadGlobal_builtin (by rw [I.ok.glob]; exact I.mod.glob.keeps I.bk) hm (by rw [I.ok.blt]; exact h1.keeps I.bk) ((h2 x hn).trans hv) h) hd
/-- a module's constant, a class, a function, as a value -/
theorem pe_glob {x : Str} {v : V} {u : Value} {pos : Pos} (hg : Gl X x) (hm : X.mg x = some u) (r : RelV v u) (hd : (x == ("__debug__" : Str)) = false := by decide) : PE X (.Name x pos) (tC v) :=
  fun _ _ _ H _ I h => ld_glob I hg hm ⟨v, H, I, r, h⟩ hd
theorem pe_bltn {x : Str} {v : V} {u : Value} {pos : Pos} (hg : Gl X x) (hm : X.mg x = none) (hv : bootBuiltins x = some u) (r : RelV v u) (hn : x ≠ "__name__" := by decide) (hd : (x == ("__debug__" : Str)) = false := by decide) : PE X (.Name x pos) (tC v) :=
  fun _ _ _ H _ I h => ld_blt I hg hm hv ⟨v, H, I, r, h⟩ hn hd

/-! ### arithmetic -/
variable {a b : Expr} {ta tb : TE} {pos : Pos}

/-! ### comparisons -/
def PC (X : Cx) (op : CmpOp) (a b : Expr) (t : TE) : Prop :=
  ∀ (pins : List (Addr × Obj)) (s : Shared) (σ : St) (H : Hp) (Q : VK), Inv X pins σ H s → t σ H Q →
    wpAny (model X.prog X.w) X.A (eval a X.env) (fun v s₁ => wpAny (model X.prog X.w) X.A (eval b X.env) (fun u s₂ => wpAny (model X.prog X.w) X.A (compareOp op v u) (EP X pins σ Q) X.xe s₂) X.xe s₁) X.xe s
theorem nobehind (b : Expr) {op : CmpOp} (h : op ≠ .In) (h2 : op ≠ .NotIn) : behindInMarks op b = false := by
  have e1 : (op == CmpOp.In) = false := by cases op <;> first | rfl | exact absurd rfl h
  have e2 : (op == CmpOp.NotIn) = false := by cases op <;> first | rfl | exact absurd rfl h2
  cases b <;> simp [behindInMarks, e1, e2]
/-- is None -/
def tIsN (ta : TE) : TE := fun σ H Q => ta σ H fun x H1 => Q (.bl (decide (x = .non))) H1
def tNotN (ta : TE) : TE := fun σ H Q => ta σ H fun x H1 => Q (.bl (!decide (x = .non))) H1
theorem RelV.none_iff {x : V} {v : Value} (r : RelV x v) : (v == Value.none) = decide (x = .non) := by
  cases x with
  | non => cases r; rfl
  | bl _ => cases r; rfl
  | int _ => obtain ⟨t, rfl⟩ := r; rfl
  | str _ => obtain ⟨t, rfl⟩ := r; rfl
  | byt _ => obtain ⟨t, rfl⟩ := r; rfl
  | flt _ => obtain ⟨t, rfl⟩ := r; rfl
  | ref _ => cases r; rfl
  | ty _ => cases r; rfl
theorem pc_isN {j pos'} (ha : PE X a ta) : PC X .Is a (.Constant .none j pos') (tIsN ta) := by
  intro pins s σ H Q I h
  refine thn (ha pins s σ H _ I h) fun v s1 ⟨x, H1, I1, r1, q1⟩ => ?_
  exact Constant_none (is_none_gen ⟨.bl _, H1, I1, by rw [r1.none_iff]; rfl, q1⟩)
theorem pc_notN {j pos'} (ha : PE X a ta) : PC X .IsNot a (.Constant .none j pos') (tNotN ta) := by
  intro pins s σ H Q I h
  refine thn (ha pins s σ H _ I h) fun v s1 ⟨x, H1, I1, r1, q1⟩ => ?_
  exact Constant_none (isnot_none_gen ⟨.bl _, H1, I1, by rw [r1.none_iff]; rfl, q1⟩)
/-- a comparison as a value, as a test -/
def tB (t : TE) : TT := fun σ H Q => t σ H fun x H1 => ∃ c, x = .bl c ∧ Q c H1
theorem pt_cmp {op : CmpOp} {t : TE} (h : PC X op a b t) (h1 : behindInMarks op b = false := by first | exact nobehind _ (by decide) (by decide) | rfl) : PT X (.Compare a [op] [b] pos) (tB t) := by
  intro pins s σ H Q I hw
  refine wpAny_isTrue_Compare1 (thn (h pins s σ H _ I hw) fun v s1 h1 => thn h1 fun u s2 h2 => thn h2 fun c s3 ⟨x, H1, I1, r1, q1⟩ => ?_) h1
  obtain ⟨d, rfl, q⟩ := q1
  cases r1
  exact wpAny_truthy_bool ⟨H1, I1, q⟩

/-! ### and, or, not -/
variable {tA tB' : TT} {rest : List Expr}
def tAnd (t u : TT) : TT := fun σ H Q => t σ H fun c H1 => if c = true then u σ H1 Q else Q false H1
def tOr (t u : TT) : TT := fun σ H Q => t σ H fun c H1 => if c = true then Q true H1 else u σ H1 Q
def tNot (t : TT) : TT := fun σ H Q => t σ H fun c H1 => Q (!c) H1
theorem pw_and1 (ha : PT X a tA) : PW X (.BoolOp .And [a] pos) tA := by
  intro wh pins s σ H Q I h
  refine isTrue_and (thn (ha pins s σ H Q I h) fun c s1 e => ?_)
  cases c with
  | true => exact isTrue_and_nil e
  | false => exact e
theorem pw_or1 (ha : PT X a tA) : PW X (.BoolOp .Or [a] pos) tA := by
  intro wh pins s σ H Q I h
  refine isTrue_or (thn (ha pins s σ H Q I h) fun c s1 e => ?_)
  cases c with
  | false => exact isTrue_or_nil e
  | true => exact e
theorem pw_and (ha : PT X a tA) (hb : PW X (.BoolOp .And (b :: rest) pos) tB') : PW X (.BoolOp .And (a :: b :: rest) pos) (tAnd tA tB') := by
  intro wh pins s σ H Q I h
  refine isTrue_and (thn (ha pins s σ H _ I h) fun c s1 ⟨H1, I1, q1⟩ => ?_)
  cases c with
  | true => exact hb wh pins s1 σ H1 Q I1 q1
  | false => exact ⟨H1, I1, q1⟩
theorem pw_or (ha : PT X a tA) (hb : PW X (.BoolOp .Or (b :: rest) pos) tB') : PW X (.BoolOp .Or (a :: b :: rest) pos) (tOr tA tB') := by
  intro wh pins s σ H Q I h
  refine isTrue_or (thn (ha pins s σ H _ I h) fun c s1 ⟨H1, I1, q1⟩ => ?_)
  cases c with
  | true => exact ⟨H1, I1, q1⟩
  | false => exact hb wh pins s1 σ H1 Q I1 q1
theorem pt_not (ha : PT X a tA) : PT X (.UnaryOp .Not a pos) (tNot tA) := by
  intro pins s σ H Q I h
  exact isTrue_not (ha pins s σ H (fun c H1 => Q (!c) H1) I h)
/-- .. as values (bools) -/
def tAndV (ta tb : TE) : TE := fun σ H Q => ta σ H fun x H1 => ∃ c, x = .bl c ∧ if c = true then tb σ H1 Q else Q (.bl false) H1
def tNotV (ta : TE) : TE := fun σ H Q => ta σ H fun x H1 => ∃ c, x = .bl c ∧ Q (.bl (!c)) H1
theorem pe_one {op} {t : TE} (h : PE X a t) : PE X (.BoolOp op [a] pos) t := fun pins s σ H Q I hw => BoolOp_one (h pins s σ H Q I hw)
theorem pe_and (ha : PE X a ta) (hb : PE X (.BoolOp .And (b :: rest) pos) tb) : PE X (.BoolOp .And (a :: b :: rest) pos) (tAndV ta tb) := by
  intro pins s σ H Q I h
  refine BoolOp_and (thn (ha pins s σ H _ I h) fun v s1 ⟨x, H1, I1, r1, q1⟩ => ?_)
  obtain ⟨c, rfl, q1⟩ := q1
  cases r1
  refine wpAny_truthy_bool ?_
  cases c with
  | true => exact hb pins s1 σ H1 Q I1 q1
  | false => exact ⟨.bl false, H1, I1, rfl, q1⟩
theorem pe_not (ha : PE X a ta) : PE X (.UnaryOp .Not a pos) (tNotV ta) := by
  intro pins s σ H Q I h
  refine UnaryOp_ (thn (ha pins s σ H _ I h) fun v s1 ⟨x, H1, I1, r1, q1⟩ => ?_)
  obtain ⟨c, rfl, q1⟩ := q1
  cases r1
  exact not_of (wpAny_truthy_bool ⟨.bl (!c), H1, I1, rfl, q1⟩)
end
end L2

namespace L2
open PySem PySem.Spec PyProof.Rows

/-! ### a list, a tuple that is read: tracked, frozen, or an object of the module -/
def SqL (K : PySem.W.Frag) (H : Hp) (a : Addr) (xs : List V) : Prop :=
  Rd H a (.lst xs) ∨
    ∃ (o : Obj) (its : Array Value) (n : Nat), K.lookup a = some o ∧ o.cls = .type "list" ∧ o.dict = none ∧ o.data = .seq its n ∧ its.size ≤ sizeLine ∧ Vals xs its.toList
def SqT (K : PySem.W.Frag) (H : Hp) (a : Addr) (xs : List V) : Prop :=
  Rd H a (.tup xs) ∨
    ∃ (o : Obj) (its : Array Value) (n : Nat), K.lookup a = some o ∧ (o.cls = .type "tuple" ∧ o.dict = none) ∧ o.data = .seq its n ∧ its.size ≤ sizeLine ∧ Vals xs its.toList
def absV : Value → Option V
  | .none => some .non
  | .bool b => some (.bl b)
  | .int i _ => some (.int i)
  | .str x _ => some (.str x)
  | .bytes b _ => some (.byt b)
  | .float b _ => some (.flt b)
  | .ref a => some (.ref a)
  | .type n => some (.ty n)
  | _ => none
theorem RelV.abs {x : V} {u : Value} (r : RelV x u) : absV u = some x := by
  cases x with
  | non => cases r; rfl
  | bl _ => cases r; rfl
  | int _ => obtain ⟨t, rfl⟩ := r; rfl
  | str _ => obtain ⟨t, rfl⟩ := r; rfl
  | byt _ => obtain ⟨t, rfl⟩ := r; rfl
  | flt _ => obtain ⟨t, rfl⟩ := r; rfl
  | ref _ => cases r; rfl
  | ty _ => cases r; rfl
theorem RelV.inj {x y : V} {u : Value} (r : RelV x u) (q : RelV y u) : x = y := Option.some.inj (r.abs.symm.trans q.abs)
theorem Vals.inj : ∀ {xs ys : List V} {us : List Value}, Vals xs us → Vals ys us → xs = ys
  | _, _, _, .nil, .nil => rfl
  | _, _, _, .cons r t, .cons r' t' => by rw [r.inj r', Vals.inj t t']
section
variable {X : Cx} {pins : List (Addr × Obj)} {σ : St} {H : Hp} {s : Shared} {a : Addr} {xs ys : List V}
theorem SqL.of {K : PySem.W.Frag} (h : H a = some (.lst xs)) : SqL K H a xs := .inl (.inl h)
theorem SqT.of {K : PySem.W.Frag} (h : H a = some (.tup xs)) : SqT K H a xs := .inl (.inl h)
theorem Inv.list (I : Inv X pins σ H s) (h : SqL X.K H a xs) : ∃ its : List Value, Vals xs its ∧ PlainL s.heap a its.toArray ∧ xs.length ≤ sizeLine := by
  rcases h with h | ⟨o, its, n, hk, hc, hd, hs, hz, r⟩
  · obtain ⟨z, its, n, r, e⟩ := h.ok I.hok
    exact ⟨its, r, ⟨_, n, e, rfl, rfl, rfl⟩, z⟩
  · refine ⟨its.toList, r, ⟨o, n, I.kIn a o hk, hc, hd, by simpa using hs⟩, ?_⟩
    have e := r.length
    simp only [Array.length_toList] at e
    omega
theorem Inv.tuple (I : Inv X pins σ H s) (h : SqT X.K H a xs) : ∃ its : List Value, Vals xs its ∧ IsTup s.heap a its.toArray ∧ xs.length ≤ sizeLine := by
  rcases h with h | ⟨o, its, n, hk, hc, hs, hz, r⟩
  · obtain ⟨z, its, r, p⟩ := h.ok I.hok
    exact ⟨its, r, p.is, z⟩
  · refine ⟨its.toList, r, ⟨o, I.kIn a o hk, hc.1, n, by simpa using hs⟩, ?_⟩
    have e := r.length
    simp only [Array.length_toList] at e
    omega
theorem Inv.list_inj (I : Inv X pins σ H s) (h : SqL X.K H a xs) (h' : SqL X.K H a ys) : xs = ys := by
  obtain ⟨its, r, ⟨o, n, e, _, _, d⟩, _⟩ := I.list h
  obtain ⟨its', r', ⟨o', n', e', _, _, d'⟩, _⟩ := I.list h'
  rw [e] at e'; cases e'
  rw [d] at d'
  injection d' with d1 _
  have : its = its' := by simpa using congrArg Array.toList d1
  subst this
  exact r.inj r'
theorem Inv.tuple_inj (I : Inv X pins σ H s) (h : SqT X.K H a xs) (h' : SqT X.K H a ys) : xs = ys := by
  obtain ⟨its, r, ⟨o, e, _, n, d⟩, _⟩ := I.tuple h
  obtain ⟨its', r', ⟨o', e', _, n', d'⟩, _⟩ := I.tuple h'
  rw [e] at e'; cases e'
  rw [d] at d'
  injection d' with d1 _
  have : its = its' := by simpa using congrArg Array.toList d1
  subst this
  exact r.inj r'
end

/-! ### another wish about exceptions -/
abbrev Cx.wish (X : Cx) (E : Value → Shared → Prop) : Cx := { X with xe := E }
/-- no exception leaves -/
abbrev Cx.nox (X : Cx) : Cx := X.wish fun _ _ => False
theorem Cx.Ok.wish {X : Cx} (ok : X.Ok) (E : Value → Shared → Prop) : (X.wish E).Ok :=
  ⟨ok.mod, ok.kind, ok.glob, ok.blt, ok.above, ok.inj, ok.has, ok.cab, ok.hd, ok.frames, ok.stk, ok.exf, ok.bs, ok.bsz, ok.noex, ok.exfs, ok.funs, ok.frf⟩
theorem Cx.Ok.unwish {X : Cx} {E : Value → Shared → Prop} (ok : (X.wish E).Ok) : X.Ok :=
  ⟨ok.mod, ok.kind, ok.glob, ok.blt, ok.above, ok.inj, ok.has, ok.cab, ok.hd, ok.frames, ok.stk, ok.exf, ok.bs, ok.bsz, ok.noex, ok.exfs, ok.funs, ok.frf⟩
section
variable {X : Cx} {pins : List (Addr × Obj)} {σ : St} {H : Hp} {s : Shared} {E : Value → Shared → Prop}
theorem Inv.wish (I : Inv X pins σ H s) (E : Value → Shared → Prop) : Inv (X.wish E) pins σ H s := ⟨I.ok.wish E, I.os, I.bare, I.base, I.loc, I.cell, I.free, I.freeC, I.pin, I.hok, I.len⟩
theorem Inv.unwish (I : Inv (X.wish E) pins σ H s) : Inv X pins σ H s := ⟨I.ok.unwish, I.os, I.bare, I.base, I.loc, I.cell, I.free, I.freeC, I.pin, I.hok, I.len⟩
theorem SP.unwish {D : Ends} {f : Flow} {s' : Shared} (h : SP (X.wish E) pins D f s') : SP X pins D f s' := by
  cases f with
  | next => obtain ⟨σ', H', I, q⟩ := h; exact ⟨σ', H', I.unwish, q⟩
  | brk => obtain ⟨σ', H', I, q⟩ := h; exact ⟨σ', H', I.unwish, q⟩
  | cont => obtain ⟨σ', H', I, q⟩ := h; exact ⟨σ', H', I.unwish, q⟩
  | ret u => obtain ⟨v, σ', H', I, r, q⟩ := h; exact ⟨v, σ', H', I.unwish, r, q⟩
theorem PE.nox {e : Expr} {t : TE} (h : PE X.nox e t) : PE X e t := fun pins s σ H Q I hw =>
  wpAny_mono (h pins s σ H Q (I.wish _) hw) (fun _ _ ⟨v, H', I', r, q⟩ => ⟨v, H', I'.unwish, r, q⟩) fun _ _ z => False.elim z
theorem PT.nox {e : Expr} {t : TT} (h : PT X.nox e t) : PT X e t := fun pins s σ H Q I hw =>
  wpAny_mono (h pins s σ H Q (I.wish _) hw) (fun _ _ ⟨H', I', q⟩ => ⟨H', I'.unwish, q⟩) fun _ _ z => False.elim z
theorem PSs.nox {st : List Stmt} {t : TS} (h : PSs X.nox st t) : PSs X st t := fun pins s σ H D I hw =>
  wpAny_mono (h pins s σ H D (I.wish _) hw) (fun _ _ q => q.unwish) fun _ _ z => False.elim z
end

/-! ### blocks and small statements -/
section
variable {X : Cx} {st : Stmt} {rest : List Stmt} {t u : TS} {e : Expr} {te : TE} {pos : Pos}
def tNext : TS := fun D σ H => D.nx σ H
def tSeq (t u : TS) : TS := fun D σ H => t { D with nx := u D } σ H
theorem pss_nil : PSs X [] tNext := fun _ _ σ H _ I h => wpAny_execs_nil ⟨σ, H, I, h⟩
theorem pss_cons (h1 : PS X st t) (h2 : PSs X rest u) : PSs X (st :: rest) (tSeq t u) := by
  intro pins s σ H D I h
  refine wpAny_execs_cons (thn (h1 pins s σ H { D with nx := u D } I h) fun f s1 q => ?_)
  cases f with
  | next =>
    obtain ⟨σ', H', I', q⟩ := q
    exact h2 pins s1 σ' H' D I' q
  | ret v => exact q
  | brk => exact q
  | cont => exact q
theorem pss_one (h1 : PS X st t) : PSs X [st] t := by
  intro pins s σ H D I h
  refine wpAny_execs_cons (thn (h1 pins s σ H D I h) fun f s1 q => ?_)
  cases f with
  | next => exact wpAny_execs_nil q
  | ret v => exact q
  | brk => exact q
  | cont => exact q
/-- in a def's body nothing is shown -/
theorem Inv.quiet {pins : List (Addr × Obj)} {σ : St} {H : Hp} {s : Shared} (I : Inv X pins σ H s) : interactive X.env = false := by simp [interactive, I.ok.kind]
/-- an expression whose value is dropped -/
def tDrop (te : TE) : TS := fun D σ H => te σ H fun _ H1 => D.nx σ H1
theorem ps_expr (he : PE X e te) (hs : swapsWith e none pos.line X.env = pure false := by rfl) : PS X (.Expr e pos) (tDrop te) := by
  intro pins s σ H D I h
  exact wpAny_Expr_any (thn (he pins s σ H _ I h) fun v s1 ⟨x, H1, I1, r1, q1⟩ => ⟨σ, H1, I1, q1⟩) I.quiet hs
def tRet (te : TE) : TS := fun D σ H => te σ H D.rt
theorem ps_ret (he : PE X e te) : PS X (.Return (some e) pos) (tRet te) := by
  intro pins s σ H D I h
  exact wpAny_Return_some (thn (he pins s σ H _ I h) fun v s1 ⟨x, H1, I1, r1, q1⟩ => ⟨x, σ, H1, I1, r1, q1⟩)
def tIfS (c : TT) (t u : TS) : TS := fun D σ H => c σ H fun b H1 => if b = true then t D σ H1 else u D σ H1
theorem ps_if {c : Expr} {a b : List Stmt} {tc : TT} (hc : PT X c tc) (ha : PSs X a t) (hb : PSs X b u) : PS X (.If c a b pos) (tIfS tc t u) := by
  intro pins s σ H D I h
  refine wpAny_If (thn (hc pins s σ H _ I h) fun d s1 ⟨H1, I1, q1⟩ => ?_)
  cases d with
  | true => exact ha pins s1 σ H1 D I1 q1
  | false => exact hb pins s1 σ H1 D I1 q1
end

/-! ### targets -/
abbrev TG := V → St → Hp → (St → Hp → Prop) → Prop
def PG (X : Cx) (target : Expr) (t : TG) : Prop :=
  ∀ (pins : List (Addr × Obj)) (s : Shared) (σ : St) (H : Hp) (v : V) (u : Value) (Q : St → Hp → Prop), Inv X pins σ H s → RelV v u → t v σ H Q →
    wpAny (model X.prog X.w) X.A (assign target X.env u) (fun _ s' => ∃ σ' H', Inv X pins σ' H' s' ∧ Q σ' H') X.xe s
/-- o[i] = v, by values -/
abbrev TSet := V → V → V → Hp → (Hp → Prop) → Prop
def PSet (X : Cx) (t : TSet) : Prop :=
  ∀ (pins : List (Addr × Obj)) (s : Shared) (σ : St) (H : Hp) (o i v : V) (ov iv u : Value) (Q : Hp → Prop), Inv X pins σ H s → RelV o ov → RelV i iv → RelV v u → t o i v H Q →
    wpAny (model X.prog X.w) X.A (setItem ov iv u) (fun _ s' => ∃ H', Inv X pins σ H' s' ∧ Q H') X.xe s
section
variable {X : Cx} {pos : Pos}
def gName (i : Nat) : TG := fun v σ H Q => Q (σ.set i (some v)) H
theorem pg_name {i : Nat} {x : Str} (hN : X.N.Nodup) (hi : X.N[i]? = some x) (hx : Loc X.env.scope x) (hf : X.fn x = true ∨ X.env.scope.names.lookup x = some .local := by first | exact .inl rfl | exact .inr rfl | assumption) : PG X (.Name x pos) (gName i) := by
  intro pins s σ H v u Q I r h
  exact wpAny_assign_Name (store_ok I hN hi hx r (fun s' I' => ⟨_, H, I', h⟩) hf)
/-- o[i] = .. -/
def gSub (to ti : TE) (t : TSet) : TG := fun v σ H Q => to σ H fun o H1 => ti σ H1 fun i H2 => t o i v H2 fun H3 => Q σ H3
theorem pg_sub {o i : Expr} {to ti : TE} {t : TSet} (ho : PE X o to) (hi : PE X i ti) (hs : PSet X t)
    (ha : ∀ v, assign (.Subscript o i pos) X.env v = (do
      let ov ← holding [v] (eval o X.env)
      let iv ← holding [v, ov] (eval i X.env)
      standAt pos
      holding [v, ov, iv] (setItem ov iv v)
      release [v, ov, iv] []) := by intro _; rfl) : PG X (.Subscript o i pos) (gSub to ti t) := by
  intro pins s σ H v u Q I r h
  rw [ha]
  refine wpAny_bind (wpAny_holding (thn (ho pins s σ H _ I h) fun ov s1 ⟨x, H1, I1, r1, q1⟩ => ?_))
  refine wpAny_bind (wpAny_holding (thn (hi pins s1 σ H1 _ I1 q1) fun iv s2 ⟨y, H2, I2, r2, q2⟩ => ?_))
  refine wpAny_bind (wpAny_standAt (wpAny_bind (wpAny_holding (thn (hs pins s2 σ H2 x y v ov iv u _ I2 r1 r2 r q2) fun _ s3 ⟨H3, I3, q3⟩ => ?_))))
  exact wpAny_release ⟨σ, H3, I3, q3⟩
/-- target = value -/
def tAsg (te : TE) (g : TG) : TS := fun D σ H => te σ H fun x H1 => g x σ H1 D.nx
theorem ps_asg {tg e : Expr} {te : TE} {g : TG} (he : PE X e te) (hg : PG X tg g) (hs : swapsWithSole [tg] e pos.line X.env = pure false := by rfl) (hw : swappedStores [tg] e X.env = pure none := by rfl)
    (h1 : (assignEach [tg] X.env).map (·.2) = [assign tg X.env] := by rfl) : PS X (.Assign [tg] e pos) (tAsg te g) := by
  intro pins s σ H D I h
  refine wpAny_Assign_stores (thn (he pins s σ H _ I h) fun v s1 ⟨x, H1, I1, r1, q1⟩ => ?_) hs hw
  rw [h1]
  exact thn (hg pins s1 σ H1 x v _ I1 r1 q1) fun _ s2 q => q
/-- name = value -/
theorem ps_set {i : Nat} {x : Str} {e : Expr} {te : TE} {pos' : Pos} (hN : X.N.Nodup) (hi : X.N[i]? = some x) (hx : Loc X.env.scope x) (he : PE X e te) (hs : swapsWith e (some (.Name x pos')) pos.line X.env = pure false := by rfl) (hf : X.fn x = true ∨ X.env.scope.names.lookup x = some .local := by first | exact .inl rfl | exact .inr rfl | assumption) :
    PS X (.Assign [.Name x pos'] e pos) (tAsg te (gName i)) := by
  intro pins s σ H D I h
  refine wpAny_Assign_Name (thn (he pins s σ H _ I h) fun v s1 ⟨y, H1, I1, r1, q1⟩ => ?_) hs
  exact store_ok I1 hN hi hx r1 (fun s2 I2 => ⟨_, H1, I2, q1⟩) hf
end

/-! ### while -/
section
variable {X : Cx} {pos : Pos}
/-- the invariant W with its measure -/
def tWhile (c : TT) (tb : TS) : TS := fun D σ H => ∃ W : Nat → St → Hp → Prop, (∃ m, W m σ H) ∧ ∀ m σ H, W m σ H →
  c σ H fun b H1 => if b = true then ∃ N : St → Hp → Prop, (∀ σ' H', N σ' H' → ∃ m', m' < m ∧ W m' σ' H') ∧ tb { D with nx := N, ct := N, bk := D.nx } σ H1 else D.nx σ H1
theorem ps_while {c : Expr} {body : List Stmt} {tc : TT} {tb : TS} (hp : PassesOwn (model X.prog X.w) X.A X.env X.xe) (hc : PT X c tc) (hb : PSs X body tb) : PS X (.While c body [] pos) (tWhile tc tb) := by
  intro pins s σ H D I h
  obtain ⟨W, ⟨m0, w0⟩, turn⟩ := h
  refine wpAny_While (codeAny_whileLoop (fun n s' => ∃ σ' H', Inv X pins σ' H' s' ∧ W n σ' H') ?_ m0 ⟨σ, H, I, w0⟩)
  rintro n s1 ⟨σ1, H1, I1, w1⟩
  refine wpAny_passesOwn hp (thn (hc pins s1 σ1 H1 _ I1 (turn n σ1 H1 w1)) fun b s2 ⟨H2, I2, q2⟩ => ?_)
  cases b with
  | true =>
    obtain ⟨N, hN, q2⟩ := q2
    rw [if_pos rfl]
    refine wpAny_passesOwn hp (thn (hb pins s2 σ1 H2 _ I2 q2) fun f s3 q3 => ?_)
    cases f with
    | next =>
      obtain ⟨σ3, H3, I3, n3⟩ := q3
      obtain ⟨m', hm, w3⟩ := hN σ3 H3 n3
      exact ⟨m', hm, σ3, H3, I3, w3⟩
    | cont =>
      obtain ⟨σ3, H3, I3, n3⟩ := q3
      obtain ⟨m', hm, w3⟩ := hN σ3 H3 n3
      exact ⟨m', hm, σ3, H3, I3, w3⟩
    | brk => exact q3
    | ret v => exact q3
  | false =>
    rw [if_neg Bool.false_ne_true]
    exact wpAny_execs_nil ⟨σ1, H2, I2, q2⟩
end

/-! ### what a loop or a comprehension walks -/
/-- at turn i: it yields x (the heap may grow), or it stops -/
structure It where
  go : Nat → Hp → Prop
  yld : Nat → Hp → V → Hp → Prop
  stop : Nat → Hp → Prop
/-- the iterator's own objects may turn: they are not the frame's, not pinned, younger than the entry (or a comprehension's own) -/
def FpOk (X : Cx) (pins : List (Addr × Obj)) (H : Hp) (b : Addr) : Prop :=
  H b = none ∧ b ≠ X.env.locals ∧ b ∉ X.fs ∧ (b ∈ X.ex ∨ X.s₀.heap.objs.size ≤ b) ∧ (∀ x c, X.env.cells.lookup x = some c → c ≠ b) ∧ ∀ p ∈ X.pn ++ pins, p.1 ≠ b
theorem Inv.fpOk {X : Cx} {pins : List (Addr × Obj)} {σ : St} {H H' : Hp} {s : Shared} {b : Addr} (I : Inv X pins σ H s) (hb : s.heap.objs.size ≤ b) (hn : H' b = none) : FpOk X pins H' b := by
  refine ⟨hn, Nat.ne_of_gt (Nat.lt_of_lt_of_le I.lt hb), I.nofs hb, .inr (Nat.le_trans I.sz hb), fun x c e z => ?_, fun p hp z => ?_⟩
  · obtain ⟨v, q⟩ := I.cell x c e
    exact absurd (Nat.lt_of_lt_of_le q.lt (by rw [z]; exact hb)) (Nat.lt_irrefl _)
  · exact absurd (Nat.lt_of_lt_of_le (Heap.lt_size (I.pin p hp).1) (by rw [z]; exact hb)) (Nat.lt_irrefl _)
structure Turn (P : Program) (w : World) (K : PySem.W.Frag) (tg : Expr) (J : It) (fp : List Addr) (it : Addr) (tn : Nat → Heap → Prop) : Prop where
  mem : it ∈ fp
  obj : ∀ i h, tn i h → ∀ b ∈ fp, ∃ o, h.get? b = some o ∧ ∀ v, o.data ≠ .cell v
  keep : ∀ i h h', tn i h → (∀ b ∈ fp, ∀ o, h.get? b = some o → h'.get? b = some o) → tn i h'
  item : ∀ (X : Cx), X.prog = P → X.w = w → X.K = K → X.calm = true → ∀ (i : Nat) (pins : List (Addr × Obj)) (s : Shared) (σ : St) (H : Hp) (E : Value → Shared → Prop), Inv X pins σ H s → (∀ b ∈ fp, FpOk X pins H b) → tn i s.heap → J.go i H →
    wpAny (model P w) X.A (pyNext (.ref it)) (fun r s1 => ∃ u, r = some u ∧
      wpAny (model P w) X.A (letOwnedTupleGo tg (.ref it) u) (fun _ s2 => ∃ x H', Inv X pins σ H' s2 ∧ RelV x u ∧ J.yld i H x H' ∧ tn (i + 1) s2.heap ∧ ∀ b ∈ fp, H' b = none) E s1) E s
  done : ∀ (X : Cx), X.prog = P → X.w = w → X.K = K → X.calm = true → ∀ (i : Nat) (pins : List (Addr × Obj)) (s : Shared) (σ : St) (H : Hp) (E : Value → Shared → Prop), Inv X pins σ H s → (∀ b ∈ fp, FpOk X pins H b) → tn i s.heap → J.stop i H →
    wpAny (model P w) X.A (pyNext (.ref it)) (fun r s1 => r = none ∧ Inv X pins σ H s1) E s
  self : ∀ (A : Around) (i : Nat) (s : Shared) (Q : Value → Shared → Prop) (E : Value → Shared → Prop), tn i s.heap → Q (.ref it) s → wpAny (model P w) A (pyIter (.ref it)) Q E s
abbrev TI := St → Hp → (It → Hp → Prop) → Prop
/-- an iterator has come -/
def PIE (X : Cx) (pins : List (Addr × Obj)) (σ : St) (tg : Expr) (R : It → Hp → Prop) (itv : Value) (s2 : Shared) : Prop :=
  ∃ (it : Addr) (fp : List Addr) (tn : Nat → Heap → Prop) (J : It) (H' : Hp), itv = .ref it ∧ Inv X pins σ H' s2 ∧ Turn X.prog X.w X.K tg J fp it tn ∧ tn 0 s2.heap ∧ (∀ b ∈ fp, FpOk X pins H' b) ∧ R J H'
def PI (X : Cx) (tg iter : Expr) (wi : TI) : Prop :=
  ∀ (pins : List (Addr × Obj)) (s : Shared) (σ : St) (H : Hp) (R : It → Hp → Prop), Inv X pins σ H s → wi σ H R →
    wpAny (model X.prog X.w) X.A (eval iter X.env) (fun v s1 => wpAny (model X.prog X.w) X.A (pyIter v) (PIE X pins σ tg R) X.xe s1) X.xe s

/-- the step ahead of the store is nothing for an iterator that keeps no tuple -/
theorem go_of {M : Model} {A : Around} {E : Value → Shared → Prop} {s : Shared} {tg : Expr} {it : Addr} {u : Value} {o : Obj} {n : String} {vs : Array Value} {Q : Unit → Shared → Prop} (ho : s.heap.get? it = some o) (hc : o.cls = .type n) (hd : o.data = .fields vs)
    (hn : ["enumerate", "zip", "dict_itemiterator", "dict_reverseitemiterator", "odict_iterator", "itertools.zip_longest", "itertools.pairwise"].contains n = false) (hQ : Q () s) : wpAny M A (letOwnedTupleGo tg (.ref it) u) Q E s := by
  unfold letOwnedTupleGo
  cases tg <;> first
    | exact wpAny_pure hQ
    | (cases u <;> first
        | exact wpAny_pure hQ
        | (refine wpAny_bind (wpAny_load ho ?_)
           rw [hc, hd]
           show wpAny M A (if (["enumerate", "zip", "dict_itemiterator", "dict_reverseitemiterator", "odict_iterator", "itertools.zip_longest", "itertools.pairwise"].contains n && vs[0]? == some (rawInt _)) = true then _ else _) Q E s
           rw [if_neg (by intro h; rw [hn, Bool.false_and] at h; cases h)]
           exact wpAny_pure hQ))

/-- the list at a, as it stands at each turn (a loop may append to it) -/
def Itl (K : PySem.W.Frag) (a : Addr) : It :=
  ⟨fun i H => ∃ xs x, SqL K H a xs ∧ xs[i]? = some x, fun i H x H' => H' = H ∧ ∀ xs, SqL K H a xs → xs[i]? = some x, fun i H => ∃ xs, SqL K H a xs ∧ xs.length ≤ i⟩
def Itt (K : PySem.W.Frag) (a : Addr) : It :=
  ⟨fun i H => ∃ xs x, SqT K H a xs ∧ xs[i]? = some x, fun i H x H' => H' = H ∧ ∀ xs, SqT K H a xs → xs[i]? = some x, fun i H => ∃ xs, SqT K H a xs ∧ xs.length ≤ i⟩
/-- lo, lo + 1, .. (n of them) -/
def Itr (lo : Int) (n : Nat) : It := ⟨fun i _ => i < n, fun i H x H' => H' = H ∧ x = .int (lo + i), fun i _ => n ≤ i⟩
theorem turn_list {P : Program} {w : World} {K : PySem.W.Frag} {tg : Expr} (a it : Addr) : Turn P w K tg (Itl K a) [it] it (fun i h => h.IsListIter it a i) where
  mem := by simp
  obj := fun i h st b hb => by
    have e : b = it := by simpa using hb
    subst e
    obtain ⟨o, e, c, d⟩ := st
    exact ⟨o, e, fun v z => by rw [d] at z; cases z⟩
  keep := fun i h h' st k => st.at fun o e => k it (by simp) o e
  item := by
    intro X hP hw hK hc i pins s σ H E I hf st hg
    subst hP hw hK
    obtain ⟨xs, x, hq, hx⟩ := hg
    obtain ⟨its, rv, p, hz⟩ := I.list hq
    obtain ⟨u, hu, ru⟩ := rv.get hx
    obtain ⟨f0, f1, f2, f3, f4, f5⟩ := hf it (by simp)
    refine wpAny_pyNext_list_item st p.isList (x := u) (by simpa using hu) fun h' st' sb => ?_
    have I1 : Inv X pins σ H { s with heap := h' } := I.turned (t' := s.toks) (fun b o hb e => (sb.2 b hb).trans e) f0 f1 f3 f4 f5
    obtain ⟨o, e, c, d⟩ := id st'
    exact ⟨u, rfl, go_of (s := { s with heap := h' }) e c d (by decide) ⟨x, H, I1, ru, ⟨rfl, fun ys hy => by rw [I.list_inj hy hq]; exact hx⟩, st', fun b hb => (hf b hb).1⟩⟩
  done := by
    intro X hP hw hK hc i pins s σ H E I hf st hg
    subst hP hw hK
    obtain ⟨xs, hq, hx⟩ := hg
    obtain ⟨its, rv, p, hz⟩ := I.list hq
    obtain ⟨f0, f1, f2, f3, f4, f5⟩ := hf it (by simp)
    have hl := rv.length
    exact wpAny_pyNext_list_end (I.ok.hd hc) st p.isList (by simp; omega) fun h' eb => ⟨rfl, I.turned (t' := s.toks) (fun b o hb e => eb b o hb e) f0 f1 f3 f4 f5⟩
  self := fun _ _ _ _ _ st h => wpAny_pyIter_listiter st h
theorem turn_tuple {P : Program} {w : World} {K : PySem.W.Frag} {tg : Expr} (a it : Addr) : Turn P w K tg (Itt K a) [it] it (fun i h => h.IsTupleIter it a i) where
  mem := by simp
  obj := fun i h st b hb => by
    have e : b = it := by simpa using hb
    subst e
    obtain ⟨o, e, c, d⟩ := st
    exact ⟨o, e, fun v z => by rw [d] at z; cases z⟩
  keep := fun i h h' st k => st.at fun o e => k it (by simp) o e
  item := by
    intro X hP hw hK hc i pins s σ H E I hf st hg
    subst hP hw hK
    obtain ⟨xs, x, hq, hx⟩ := hg
    obtain ⟨its, rv, p, hz⟩ := I.tuple hq
    obtain ⟨u, hu, ru⟩ := rv.get hx
    obtain ⟨f0, f1, f2, f3, f4, f5⟩ := hf it (by simp)
    refine wpAny_pyNext_tuple_item st (show s.heap.IsTuple a its.toArray from p) (x := u) (by simpa using hu) fun h' st' sb => ?_
    have I1 : Inv X pins σ H { s with heap := h' } := I.turned (t' := s.toks) (fun b o hb e => (sb.2 b hb).trans e) f0 f1 f3 f4 f5
    obtain ⟨o, e, c, d⟩ := id st'
    exact ⟨u, rfl, go_of (s := { s with heap := h' }) e c d (by decide) ⟨x, H, I1, ru, ⟨rfl, fun ys hy => by rw [I.tuple_inj hy hq]; exact hx⟩, st', fun b hb => (hf b hb).1⟩⟩
  done := by
    intro X hP hw hK hc i pins s σ H E I hf st hg
    subst hP hw hK
    obtain ⟨xs, hq, hx⟩ := hg
    obtain ⟨its, rv, p, hz⟩ := I.tuple hq
    obtain ⟨f0, f1, f2, f3, f4, f5⟩ := hf it (by simp)
    have hl := rv.length
    exact wpAny_pyNext_tuple_end (I.ok.hd hc) st (show s.heap.IsTuple a its.toArray from p) (by simp; omega) fun h' eb => ⟨rfl, I.turned (t' := s.toks) (fun b o hb e => eb b o hb e) f0 f1 f3 f4 f5⟩
  self := fun _ _ _ _ _ st h => wpAny_pyIter_tupleiter st h
theorem turn_range {P : Program} {w : World} {K : PySem.W.Frag} {tg : Expr} (it : Addr) (lo : Int) (n : Nat) : Turn P w K tg (Itr lo n) [it] it (fun i h => IsRangeIter h it (lo + (i : Nat) * 1) ((n : Int) - (i : Nat)) 1) where
  mem := by simp
  obj := fun i h st b hb => by
    have e : b = it := by simpa using hb
    subst e
    exact ⟨_, st, fun v z => by
      have z' : Data.fields _ = Data.cell v := z
      cases z'⟩
  keep := fun i h h' st k => k it (by simp) _ st
  item := by
    intro X hP hw hK hc i pins s σ H E I hf st hg
    subst hP hw hK
    obtain ⟨f0, f1, f2, f3, f4, f5⟩ := hf it (by simp)
    have W := Walks.range (prog := X.prog) (w := X.w) (I.ok.hd hc) it lo 1 n
    refine W.item i s _ _ hg st fun v h' tk hv st' kk => ?_
    obtain ⟨t, rfl⟩ := hv
    have I1 : Inv X pins σ H { s with heap := h', toks := tk } := I.turned (fun b o hb e => kk b o (by simpa using hb) e) f0 f1 f3 f4 f5
    refine ⟨_, rfl, go_of (s := { s with heap := h', toks := tk }) (n := "range_iterator") st' rfl rfl (by decide) ⟨.int (lo + i), H, I1, ⟨t, ?_⟩, ⟨rfl, rfl⟩, st', fun b hb => (hf b hb).1⟩⟩
    rw [Int.mul_one]
  done := by
    intro X hP hw hK hc i pins s σ H E I hf st hg
    subst hP hw hK
    obtain ⟨f0, f1, f2, f3, f4, f5⟩ := hf it (by simp)
    exact wpAny_pyNext_range_end (I.ok.hd hc) st (by have : n ≤ i := hg; omega) fun h' eb => ⟨rfl, I.turned (t' := s.toks) (fun b o hb e => eb b o hb e) f0 f1 f3 f4 f5⟩
  self := fun _ _ _ _ _ st h => wpAny_pyIter_rangeiter st h
end L2

namespace L2
open PySem PySem.Spec PyProof.Rows
section
variable {X : Cx} {tg : Expr}
/-- a range object just made, walked -/
theorem range_it {pins : List (Addr × Obj)} {σ : St} {H : Hp} {s : Shared} {R : It → Hp → Prop} {E : Value → Shared → Prop} {lo hi : Int} {t u v : Tok} {tk : Nat} (I : Inv X pins σ H s) (h1 : -(2 ^ 62) ≤ lo) (h2 : lo < 2 ^ 62) (h3 : -(2 ^ 62) ≤ hi) (h4 : hi < 2 ^ 62)
    (q : R (Itr lo (hi - lo).toNat) H) : wpAny (model X.prog X.w) X.A (pyIter (.ref s.heap.objs.size)) (PIE X pins σ tg R) E { s with heap := s.heap.push { cls := .type "range", data := .fields #[.int lo t, .int hi u, .int 1 v] }, toks := tk } := by
  refine wpAny_pyIter_range (IsRange.new ..) (small_one h1 h2 h3 h4) ?_
  have I1 : Inv X pins σ H { s with heap := s.heap.push { cls := .type "range", data := .fields #[.int lo t, .int hi u, .int 1 v] }, toks := tk } := I.kept fun b o e => Heap.get?_push_of_some _ e
  refine ⟨(s.heap.push { cls := .type "range", data := .fields #[.int lo t, .int hi u, .int 1 v] }).objs.size, [(s.heap.push { cls := .type "range", data := .fields #[.int lo t, .int hi u, .int 1 v] }).objs.size], _, _, H, rfl,
    I1.kept (t' := tk) fun b o e => Heap.get?_push_of_some _ e, turn_range _ lo (hi - lo).toNat, ?_, fun b hb => ?_, q⟩
  · have e1 : lo + ((0 : Nat) : Int) * 1 = lo := by simp
    have e2 : (((hi - lo).toNat : Nat) : Int) - ((0 : Nat) : Int) = Builtin.Range.rangeSize lo hi 1 := by rw [rangeSize_one]; split <;> omega
    show IsRangeIter _ _ (lo + ((0 : Nat) : Int) * 1) ((((hi - lo).toNat : Nat) : Int) - ((0 : Nat) : Int)) 1
    rw [e1, e2]
    exact Heap.get?_push_size _ rfl
  · have e : b = (s.heap.push { cls := .type "range", data := .fields #[.int lo t, .int hi u, .int 1 v] }).objs.size := by simpa using hb
    subst e
    exact I1.fpOk (Nat.le_refl _) (I1.hok.fresh (Nat.le_refl _))
def iRng1 (ta : TA) : TI := fun σ H R => ta σ H fun vs H1 => ∃ j : Int, vs = [.int j] ∧ -(2 ^ 62) ≤ j ∧ j < 2 ^ 62 ∧ R (Itr 0 j.toNat) H1
theorem pi_range1 {a : Expr} {ta : TA} {p pos : Pos} (hg : Gl X "range") (hm : X.mg "range" = none) (ha : PA X [a] ta) (hs : starEach [a] X.env = [(false, eval a X.env)] := by rfl) : PI X tg (.Call (.Name "range" p) [a] [] pos) (iRng1 ta) := by
  intro pins s σ H R I h
  refine Call_ (ld_blt I hg hm boot_range (PyProof.Rows.callWith_type1 (thn (ha pos pins s σ H _ I h) fun us s1 ⟨vs, H1, I1, r1, q1⟩ => ?_) hs rfl))
  obtain ⟨j, e, q1, q2, q⟩ := q1
  subst e
  cases r1 with
  | cons r rr =>
    cases rr
    obtain ⟨t, rfl⟩ := r
    exact call_range_1 (range_it I1 (by omega) (by omega) q1 q2 (by simpa using q))

/-! ### for -/
/-- W: the invariant by the turn and a measure; N: what the body is to reach -/
def tFor (wi : TI) (g : TG) (tb : TS) : TS := fun D σ H => wi σ H fun J H1 => ∃ W : Nat → Nat → St → Hp → Prop, (∃ m, W 0 m σ H1) ∧ ∀ i m σ H, W i m σ H →
  (J.stop i H ∧ D.nx σ H) ∨ (J.go i H ∧ ∃ N : St → Hp → Prop, (∀ σ' H', N σ' H' → ∃ m', m' < m ∧ W (i + 1) m' σ' H') ∧ ∀ x H', J.yld i H x H' → g x σ H' fun σ2 H2 => tb { D with nx := N, ct := N, bk := D.nx } σ2 H2)
/-- the records at fp as they stand -/
def pinsAt (fp : List Addr) (h : Heap) : List (Addr × Obj) := fp.filterMap fun b => (h.get? b).map fun o => (b, o)
theorem mem_pinsAt {fp : List Addr} {h : Heap} {b : Addr} {o : Obj} (hb : b ∈ fp) (e : h.get? b = some o) : (b, o) ∈ pinsAt fp h := List.mem_filterMap.mpr ⟨b, hb, by rw [e]; rfl⟩
theorem of_pinsAt {fp : List Addr} {h : Heap} {p : Addr × Obj} (hp : p ∈ pinsAt fp h) : p.1 ∈ fp ∧ h.get? p.1 = some p.2 := by
  obtain ⟨b, hb, e⟩ := List.mem_filterMap.mp hp
  cases q : h.get? b with
  | none => rw [q] at e; cases e
  | some o =>
    rw [q] at e
    have e' : (b, o) = p := Option.some.inj e
    subst e'
    exact ⟨hb, q⟩
theorem Inv.pinned {pins : List (Addr × Obj)} {σ : St} {H : Hp} {s : Shared} {fp : List Addr} (I : Inv X pins σ H s) (hf : ∀ b ∈ fp, FpOk X pins H b) (ho : ∀ b ∈ fp, ∃ o, s.heap.get? b = some o ∧ ∀ v, o.data ≠ .cell v) : Inv X (pins ++ pinsAt fp s.heap) σ H s :=
  I.pins_of fun p hp => (List.mem_append.mp hp).elim (fun z => I.pin p (List.mem_append_right _ z)) fun z => by
    obtain ⟨hb, e⟩ := of_pinsAt z
    obtain ⟨f0, f1, f2, _⟩ := hf p.1 hb
    obtain ⟨o, e', d⟩ := ho p.1 hb
    rw [e] at e'; cases e'
    exact ⟨e, f0, f1, f2, d⟩
theorem Inv.unpinned {pins pl : List (Addr × Obj)} {σ : St} {H : Hp} {s : Shared} (I : Inv X (pins ++ pl) σ H s) : Inv X pins σ H s := I.pins_of fun p hp => I.pin p (List.mem_append_right _ (List.mem_append_left _ hp))
theorem ps_for {iter : Expr} {body : List Stmt} {wi : TI} {g : TG} {tb : TS} {pos : Pos} (hp : PassesOwn (model X.prog X.w) X.A X.env X.xe) (hc : X.calm = true) (hi : PI X tg iter wi) (hg : PG X tg g) (hb : PSs X body tb)
    (hs : ∀ x, foldedSetIterable iter X.env x = pure x := by intro _; rfl) : PS X (.For tg iter body [] pos) (tFor wi g tb) := by
  intro pins s σ H D I h
  refine wpAny_For (thn (hi pins s σ H _ I h) fun v s1 h1 => thn h1 fun itv s2 h2 => ?_) hs
  obtain ⟨it, fp, tn, J, H2, e, I2, T, st2, f2, W, ⟨m0, w0⟩, turn⟩ := h2
  subst e
  -- what stays true of the iterator's objects through the loop
  have stat : ∀ {H' : Hp}, (∀ b ∈ fp, H' b = none) → ∀ b ∈ fp, FpOk X pins H' b := fun hn b hb => ⟨hn b hb, (f2 b hb).2⟩
  refine codeAny_forLoop_any (fun n s' => ∃ i σ' H', Inv X pins σ' H' s' ∧ tn i s'.heap ∧ (∀ b ∈ fp, H' b = none) ∧ W i n σ' H') ?_ m0 ⟨0, σ, H2, I2, st2, fun b hb => (f2 b hb).1, w0⟩
  rintro n s3 ⟨i, σ3, H3, I3, st3, fr3, w3⟩
  rcases turn i n σ3 H3 w3 with ⟨stop, qn⟩ | ⟨go, N, hN, step⟩
  · refine wpAny_passesOwn hp (thn (T.done X rfl rfl rfl hc i pins s3 σ3 H3 X.xe I3 (stat fr3) st3 stop) fun r s4 ⟨hr, I4⟩ => ?_)
    subst hr
    exact wpAny_execs_nil ⟨σ3, H3, I4, qn⟩
  · refine wpAny_passesOwn hp (thn (T.item X rfl rfl rfl hc i pins s3 σ3 H3 X.xe I3 (stat fr3) st3 go) fun r s4 ⟨u, hr, h4⟩ => ?_)
    subst hr
    refine wpAny_passesOwn hp (thn h4 fun _ s5 ⟨x, H5, I5, r5, y5, st5, fr5⟩ => ?_)
    have I5' := I5.pinned (stat fr5) (T.obj _ _ st5)
    refine wpAny_passesOwn hp (thn (hg _ s5 σ3 H5 x u _ I5' r5 (step x H5 y5)) fun _ s6 ⟨σ6, H6, I6, q6⟩ => ?_)
    refine wpAny_passesOwn hp (thn (hb _ s6 σ6 H6 _ I6 q6) fun f s7 q7 => ?_)
    have again : ∀ {σ7 : St} {H7 : Hp}, Inv X (pins ++ pinsAt fp s5.heap) σ7 H7 s7 → N σ7 H7 → ∃ m, m < n ∧ ∃ i σ' H', Inv X pins σ' H' s7 ∧ tn i s7.heap ∧ (∀ b ∈ fp, H' b = none) ∧ W i m σ' H' := fun {σ7 H7} I7 n7 => by
      obtain ⟨m', hm, w7⟩ := hN σ7 H7 n7
      refine ⟨m', hm, i + 1, σ7, H7, I7.unpinned, T.keep _ _ _ st5 fun b hb o e => (I7.pin (b, o) (List.mem_append_right _ (List.mem_append_right _ (mem_pinsAt hb e)))).1, fun b hb => ?_, w7⟩
      obtain ⟨o, e, d⟩ := T.obj _ _ st5 b hb
      exact (I7.pin (b, o) (List.mem_append_right _ (List.mem_append_right _ (mem_pinsAt hb e)))).2.1
    cases f with
    | next => obtain ⟨σ7, H7, I7, n7⟩ := q7; exact again I7 n7
    | cont => obtain ⟨σ7, H7, I7, n7⟩ := q7; exact again I7 n7
    | brk => obtain ⟨σ7, H7, I7, q7⟩ := q7; exact ⟨σ7, H7, I7.unpinned, q7⟩
    | ret v => obtain ⟨x7, σ7, H7, I7, r7, q7⟩ := q7; exact ⟨x7, σ7, H7, I7.unpinned, r7, q7⟩
end

/-! ### the forms one uses -/
end L2

namespace L2
open PySem PySem.Spec PyProof.Rows

abbrev R2 := V → V → Hp → VK → Prop
/-- a two-place operation on values: f is binaryOp op, inplaceOp op or compareOp op -/
def OpR (X : Cx) (f : Value → Value → Sem Value) (r : R2) : Prop :=
  ∀ (pins : List (Addr × Obj)) (s : Shared) (σ : St) (H : Hp) (x y : V) (v u : Value) (Q : VK), Inv X pins σ H s → RelV x v → RelV y u → r x y H Q →
    wpAny (model X.prog X.w) X.A (f v u) (EP X pins σ Q) X.xe s
/-- a one-place operation -/
def UnR (X : Cx) (f : Value → Sem Value) (r : V → Hp → VK → Prop) : Prop :=
  ∀ (pins : List (Addr × Obj)) (s : Shared) (σ : St) (H : Hp) (x : V) (v : Value) (Q : VK), Inv X pins σ H s → RelV x v → r x H Q →
    wpAny (model X.prog X.w) X.A (f v) (EP X pins σ Q) X.xe s
/-- a call of a value that is known (a builtin, a type) with values -/
def CallR (X : Cx) (f : Value) (r : List V → Hp → VK → Prop) : Prop :=
  ∀ (pins : List (Addr × Obj)) (s : Shared) (σ : St) (H : Hp) (xs : List V) (us : List Value) (Q : VK), Inv X pins σ H s → Vals xs us → r xs H Q →
    wpAny (model X.prog X.w) X.A (call f us) (EP X pins σ Q) X.xe s
/-- a value's truth -/
def TruR (X : Cx) (r : V → Hp → (Bool → Hp → Prop) → Prop) : Prop :=
  ∀ (pins : List (Addr × Obj)) (s : Shared) (σ : St) (H : Hp) (x : V) (v : Value) (Q : Bool → Hp → Prop), Inv X pins σ H s → RelV x v → r x H Q →
    wpAny (model X.prog X.w) X.A (truthy v) (TP X pins σ Q) X.xe s

def tOp (r : R2) (ta tb : TE) : TE := fun σ H Q => ta σ H fun x H1 => tb σ H1 fun y H2 => r x y H2 Q
def tUn (r : V → Hp → VK → Prop) (ta : TE) : TE := fun σ H Q => ta σ H fun x H1 => r x H1 Q
/-- ints in, under C, and a value out -/
def rI (C : Int → Int → Prop) (g : Int → Int → V) : R2 := fun x y H Q => ∃ i j, x = .int i ∧ y = .int j ∧ C i j ∧ Q (g i j) H
def rI0 (g : Int → Int → V) : R2 := fun x y H Q => ∃ i j, x = .int i ∧ y = .int j ∧ Q (g i j) H
def rU (g : Int → V) : V → Hp → VK → Prop := fun x H Q => ∃ i, x = .int i ∧ Q (g i) H

section
variable {X : Cx} {a b c : Expr} {ta tb tc : TE} {pos : Pos}

theorem binT (ha : PE X a ta) (hb : PE X b tb) {pins : List (Addr × Obj)} {s : Shared} {σ : St} {H : Hp} {R : V → V → Hp → Prop} (I : Inv X pins σ H s)
    (h : ta σ H fun x H1 => tb σ H1 fun y H2 => R x y H2) {Q : Value → Shared → Prop} {f : Value → Value → Sem Value}
    (hf : ∀ v u s2 x y H2, Inv X pins σ H2 s2 → RelV x v → RelV y u → R x y H2 → wpAny (model X.prog X.w) X.A (f v u) Q X.xe s2) :
    wpAny (model X.prog X.w) X.A (eval a X.env) (fun v s₁ => wpAny (model X.prog X.w) X.A (eval b X.env) (fun u s₂ => wpAny (model X.prog X.w) X.A (f v u) Q X.xe s₂) X.xe s₁) X.xe s := by
  refine thn (ha pins s σ H _ I h) fun v s1 ⟨x, H1, I1, r1, q1⟩ => ?_
  refine thn (hb pins s1 σ H1 _ I1 q1) fun u s2 ⟨y, H2, I2, r2, q2⟩ => ?_
  exact hf v u s2 x y H2 I2 r1 r2 q2

theorem pe_op {op : Operator} {r : R2} (ho : OpR X (binaryOp op) r) (ha : PE X a ta) (hb : PE X b tb) : PE X (.BinOp a op b pos) (tOp r ta tb) := by
  intro pins s σ H Q I h
  exact wpAny_BinOp (binT ha hb I h fun v u s2 x y H2 I2 rx ry q => ho pins s2 σ H2 x y v u Q I2 rx ry q)
theorem pe_un {op : UnaryOp} {r : V → Hp → VK → Prop} (ho : UnR X (unaryOp op) r) (ha : PE X a ta) : PE X (.UnaryOp op a pos) (tUn r ta) := by
  intro pins s σ H Q I h
  exact UnaryOp_ (thn (ha pins s σ H _ I h) fun v s1 ⟨x, H1, I1, r1, q1⟩ => ho pins s1 σ H1 x v Q I1 r1 q1)

/-! ### ints -/
theorem opI {f : Value → Value → Sem Value} {C : Int → Int → Prop} {g : Int → Int → Int}
    (rule : ∀ (i j : Int) (t u : Tok) (s : Shared) (Q : Value → Shared → Prop) (E : Value → Shared → Prop), C i j → Q (.int (g i j) s.toks) { s with toks := s.toks + 1 } → wpAny (model X.prog X.w) X.A (f (.int i t) (.int j u)) Q E s) :
    OpR X f (rI C fun i j => .int (g i j)) := by
  intro pins s σ H x y v u Q I rx ry h
  obtain ⟨i, j, rfl, rfl, hc, q⟩ := h
  obtain ⟨t, rfl⟩ := rx
  obtain ⟨t', rfl⟩ := ry
  exact rule i j t t' s _ _ hc ⟨.int (g i j), H, I.tok _, ⟨_, rfl⟩, q⟩
theorem opI0 {f : Value → Value → Sem Value} {g : Int → Int → Int}
    (rule : ∀ (i j : Int) (t u : Tok) (s : Shared) (Q : Value → Shared → Prop) (E : Value → Shared → Prop), Q (.int (g i j) s.toks) { s with toks := s.toks + 1 } → wpAny (model X.prog X.w) X.A (f (.int i t) (.int j u)) Q E s) :
    OpR X f (rI0 fun i j => .int (g i j)) := by
  intro pins s σ H x y v u Q I rx ry h
  obtain ⟨i, j, rfl, rfl, q⟩ := h
  obtain ⟨t, rfl⟩ := rx
  obtain ⟨t', rfl⟩ := ry
  exact rule i j t t' s _ _ ⟨.int (g i j), H, I.tok _, ⟨_, rfl⟩, q⟩
theorem opB0 {f : Value → Value → Sem Value} {g : Int → Int → Bool}
    (rule : ∀ (i j : Int) (t u : Tok) (s : Shared) (Q : Value → Shared → Prop) (E : Value → Shared → Prop), Q (.bool (g i j)) s → wpAny (model X.prog X.w) X.A (f (.int i t) (.int j u)) Q E s) :
    OpR X f (rI0 fun i j => .bl (g i j)) := by
  intro pins s σ H x y v u Q I rx ry h
  obtain ⟨i, j, rfl, rfl, q⟩ := h
  obtain ⟨t, rfl⟩ := rx
  obtain ⟨t', rfl⟩ := ry
  exact rule i j t t' s _ _ ⟨.bl (g i j), H, I, rfl, q⟩

def CDiv (i j : Int) : Prop := 0 < j ∧ j < 1073741824
def CDivN (i j : Int) : Prop := j ≠ 0 ∧ j.natAbs < 1073741824
def CPow (i j : Int) : Prop := 0 ≤ j ∧ j ≤ 1000000 ∧ i.natAbs < 2 ^ 64
def CMul (i j : Int) : Prop := (-(2 ^ 64) < i ∧ i < 2 ^ 64) ∨ (-(2 ^ 64) < j ∧ j < 2 ^ 64)
theorem CMul.ok {i j : Int} (h : CMul i j) : IntMulOk i j := by
  rcases h with ⟨h1, h2⟩ | ⟨h1, h2⟩
  · exact .of_left (intBits_le_64 h1 h2)
  · exact .of_right (intBits_le_64 h1 h2)

theorem op_add : OpR X (binaryOp .Add) (rI0 fun i j => .int (i + j)) := opI0 fun _ _ _ _ _ _ _ q => add_int q
theorem op_sub : OpR X (binaryOp .Sub) (rI0 fun i j => .int (i - j)) := opI0 fun _ _ _ _ _ _ _ q => sub_int q
/-- // by a positive divisor -/
theorem op_fdiv : OpR X (binaryOp .FloorDiv) (rI CDiv fun i j => .int (i / j)) := opI fun i j _ _ _ _ _ hc q => by
  have h1 : (0 : Int) < j := hc.1
  have h2 : j < 1073741824 := hc.2
  exact floordiv_int (by omega) (by rw [Int.fdiv_eq_ediv_of_nonneg i (by omega)]; exact q) (.inl (PyProof.noPylong_small (by omega)))
/-- % by a positive divisor of any size -/
theorem op_mod : OpR X (binaryOp .Mod) (rI (fun _ j => 0 < j) fun i j => .int (i % j)) := opI fun i j _ _ _ _ _ hc q => by
  have h1 : (0 : Int) < j := hc
  exact mod_int' (by omega) (by rw [Int.fmod_eq_emod_of_nonneg i (by omega)]; exact q)
theorem op_pow : OpR X (binaryOp .Pow) (rI CPow fun i j => .int (i ^ j.toNat)) := opI fun _ _ _ _ _ _ _ hc q => pow_int_small hc.1 hc.2.1 hc.2.2 q


theorem unI {f : Value → Sem Value} {g : Int → Int}
    (rule : ∀ (i : Int) (t : Tok) (s : Shared) (Q : Value → Shared → Prop) (E : Value → Shared → Prop), Q (.int (g i) s.toks) { s with toks := s.toks + 1 } → wpAny (model X.prog X.w) X.A (f (.int i t)) Q E s) :
    UnR X f (rU fun i => .int (g i)) := by
  intro pins s σ H x v Q I rx h
  obtain ⟨i, rfl, q⟩ := h
  obtain ⟨t, rfl⟩ := rx
  exact rule i t s _ _ ⟨.int (g i), H, I.tok _, ⟨_, rfl⟩, q⟩
theorem un_neg : UnR X (unaryOp .USub) (rU fun i => .int (-i)) := unI fun _ _ _ _ _ q => neg_int q

/-! ### bools among ints: n += (a < b) -/
end

/-! ### comparisons -/


section
variable {X : Cx} {a b c : Expr} {ta tb tc : TE} {pos : Pos}

theorem op_lt : OpR X (compareOp .Lt) (rI0 fun i j => .bl (decide (i < j))) := opB0 fun _ _ _ _ _ _ _ q => lt_int q
theorem op_le : OpR X (compareOp .LtE) (rI0 fun i j => .bl (decide (i ≤ j))) := opB0 fun _ _ _ _ _ _ _ q => le_int q
theorem op_gt : OpR X (compareOp .Gt) (rI0 fun i j => .bl (decide (j < i))) := opB0 fun _ _ _ _ _ _ _ q => gt_int q
theorem op_ge : OpR X (compareOp .GtE) (rI0 fun i j => .bl (decide (j ≤ i))) := opB0 fun _ _ _ _ _ _ _ q => ge_int q



/-- two rules for one operation: by cases -/
theorem OpR.or {f : Value → Value → Sem Value} {r r' : R2} (h : OpR X f r) (h' : OpR X f r') : OpR X f (fun x y H Q => r x y H Q ∨ r' x y H Q) := by
  intro pins s σ H x y v u Q I rx ry q
  rcases q with q | q
  · exact h pins s σ H x y v u Q I rx ry q
  · exact h' pins s σ H x y v u Q I rx ry q

theorem nomark (b : Expr) {op : CmpOp} (h : op ≠ .In := by decide) (h2 : op ≠ .NotIn := by decide) : behindInMarks op b = false := by
  have e1 : (op == CmpOp.In) = false := by cases op <;> first | rfl | exact absurd rfl h
  have e2 : (op == CmpOp.NotIn) = false := by cases op <;> first | rfl | exact absurd rfl h2
  cases b <;> simp [behindInMarks, e1, e2]
/-- a comparison as a value; hm: nomark b, or (for in, not in) by with_unfolding_all rfl -/
theorem pe_cmpR {op : CmpOp} {r : R2} (ho : OpR X (compareOp op) r) (ha : PE X a ta) (hb : PE X b tb) (hm : behindInMarks op b = false) : PE X (.Compare a [op] [b] pos) (tOp r ta tb) := by
  intro pins s σ H Q I h
  exact wpAny_Compare1 (binT ha hb I h fun v u s2 x y H2 I2 rx ry q => ho pins s2 σ H2 x y v u Q I2 rx ry q) hm
/-- a reading of a value as a test -/
def tTest (t : TE) : TT := fun σ H Q => t σ H fun x H' => ∃ k, x = .bl k ∧ Q k H'
theorem pt_cmpR {op : CmpOp} {r : R2} (ho : OpR X (compareOp op) r) (ha : PE X a ta) (hb : PE X b tb) (hm : behindInMarks op b = false) : PT X (.Compare a [op] [b] pos) (tTest (tOp r ta tb)) := by
  intro pins s σ H Q I h
  refine wpAny_isTrue_Compare1 (thn (ha pins s σ H _ I h) fun v s1 ⟨x, H1, I1, r1, q1⟩ => thn (hb pins s1 σ H1 _ I1 q1) fun u s2 ⟨y, H2, I2, r2, q2⟩ =>
    thn (ho pins s2 σ H2 x y v u _ I2 r1 r2 q2) fun c s3 ⟨z, H3, I3, r3, k, e, q3⟩ => ?_) hm
  subst e
  cases r3
  exact wpAny_truthy_bool ⟨H3, I3, q3⟩
/-- a op1 b op2 c -/
def tChain (r r' : R2) (ta tb tc : TE) : TE := fun σ H Q => ta σ H fun x H1 => tb σ H1 fun y H2 => r x y H2 fun z H3 => ∃ k, z = .bl k ∧
  (if k = true then tc σ H3 fun w' H4 => r' y w' H4 Q else Q (.bl false) H3)
theorem pe_chain {op op' : CmpOp} {r r' : R2} (ho : OpR X (compareOp op) r) (ho' : OpR X (compareOp op') r') (ha : PE X a ta) (hb : PE X b tb) (hc : PE X c tc)
    (hm : lastMarks [op, op'] [b, c] = false := by with_unfolding_all rfl) : PE X (.Compare a [op, op'] [b, c] pos) (tChain r r' ta tb tc) := by
  intro pins s σ H Q I h
  refine Compare_chain (thn (ha pins s σ H _ I h) fun v s1 ⟨x, H1, I1, r1, q1⟩ => chain_link (thn (hb pins s1 σ H1 _ I1 q1) fun u s2 ⟨y, H2, I2, r2, q2⟩ =>
    thn (ho pins s2 σ H2 x y v u _ I2 r1 r2 q2) fun d s3 ⟨z, H3, I3, r3, k, e, q3⟩ => ?_)) hm
  subst e
  cases r3
  refine wpAny_truthy_bool ?_
  cases k with
  | false => exact ite_ff ⟨.bl false, H3, I3, rfl, q3⟩
  | true => exact ite_tt (chain_last (thn (hc pins s3 σ H3 _ I3 q3) fun w' s4 ⟨z', H4, I4, r4, q4⟩ => ho' pins s4 σ H4 y z' u w' Q I4 r2 r4 q4))
theorem pt_chain {op op' : CmpOp} {r r' : R2} (ho : OpR X (compareOp op) r) (ho' : OpR X (compareOp op') r') (ha : PE X a ta) (hb : PE X b tb) (hc : PE X c tc)
    (hm : lastMarks [op, op'] [b, c] = false := by with_unfolding_all rfl) : PT X (.Compare a [op, op'] [b, c] pos) (tTest (tChain r r' ta tb tc)) := by
  intro pins s σ H Q I h
  refine isTrue_chain (thn (ha pins s σ H _ I h) fun v s1 ⟨x, H1, I1, r1, q1⟩ => test_link (thn (hb pins s1 σ H1 _ I1 q1) fun u s2 ⟨y, H2, I2, r2, q2⟩ =>
    thn (ho pins s2 σ H2 x y v u _ I2 r1 r2 q2) fun d s3 ⟨z, H3, I3, r3, k, e, q3⟩ => ?_)) hm
  subst e
  cases r3
  refine wpAny_truthy_bool ?_
  cases k with
  | false =>
    obtain ⟨k', e', q'⟩ := q3
    cases e'
    exact ite_ff ⟨H3, I3, q'⟩
  | true =>
    refine ite_tt (test_last (thn (hc pins s3 σ H3 _ I3 q3) fun w' s4 ⟨z', H4, I4, r4, q4⟩ => thn (ho' pins s4 σ H4 y z' u w' _ I4 r2 r4 q4) fun d' s5 ⟨z2, H5, I5, r5, k2, e2, q5⟩ => ?_))
    subst e2
    cases r5
    exact wpAny_truthy_bool ⟨H5, I5, q5⟩

/-! ### truth -/
/-- a value's truth by the abstract heap -/
def TruV (K : PySem.W.Frag) (x : V) (H : Hp) (k : Bool) : Prop :=
  match x with
  | .non => k = false
  | .bl b => k = b
  | .int i => k = (i != 0)
  | .str y => y.length ≤ sizeLine ∧ k = ((y.length : Int) != 0)
  | .byt y => y.size ≤ sizeLine ∧ k = ((y.size : Int) != 0)
  | .ref p => (∃ xs, SqL K H p xs ∧ k = !xs.isEmpty) ∨ (∃ xs, SqT K H p xs ∧ k = !xs.isEmpty) ∨ ∃ kvs, H p = some (.dK kvs) ∧ k = !kvs.isEmpty
  | _ => False
theorem isEmpty_kv {κ : Type} {kvs : List (κ × V)} {vs : List (κ × Value)} (r : KV kvs vs) : (!vs.isEmpty) = !kvs.isEmpty := by
  cases r <;> rfl
theorem isEmpty_of {xs : List V} {its : List Value} (r : Vals xs its) : (!its.toArray.isEmpty) = !xs.isEmpty := by
  cases r <;> simp
theorem line63 : (sizeLine : Nat) < 2 ^ 63 := by rw [sizeLine_eq]; decide
theorem tru_ok : TruR X (fun x H Q => ∃ k, TruV X.K x H k ∧ Q k H) := by
  intro pins s σ H x v Q I rx h
  obtain ⟨k, e, q⟩ := h
  have hl := line63
  have hs : sizeLine = 16777216 := sizeLine_eq
  cases x with
  | non =>
    cases rx
    have e' : k = false := e
    subst e'
    exact truthy_none ⟨H, I, q⟩
  | bl b =>
    cases rx
    have e' : k = b := e
    subst e'
    exact wpAny_truthy_bool ⟨H, I, q⟩
  | int i =>
    obtain ⟨t, rfl⟩ := rx
    have e' : k = (i != 0) := e
    subst e'
    exact PySem.P.truthy_int ⟨H, I, q⟩
  | str y =>
    obtain ⟨t, rfl⟩ := rx
    obtain ⟨hy, e'⟩ : y.length ≤ sizeLine ∧ k = ((y.length : Int) != 0) := e
    subst e'
    exact PySem.P.truthy_str (by omega) ⟨H, I.tok _, q⟩
  | byt y =>
    obtain ⟨t, rfl⟩ := rx
    obtain ⟨hy, e'⟩ : y.size ≤ sizeLine ∧ k = ((y.size : Int) != 0) := e
    subst e'
    exact PySem.W.truthy_bytes (by omega) ⟨H, I.tok _, q⟩
  | ref p =>
    cases rx
    have e' : (∃ xs, SqL X.K H p xs ∧ k = !xs.isEmpty) ∨ (∃ xs, SqT X.K H p xs ∧ k = !xs.isEmpty) ∨ ∃ kvs, H p = some (.dK kvs) ∧ k = !kvs.isEmpty := e
    rcases e' with ⟨xs, hx, e'⟩ | ⟨xs, hx, e'⟩ | ⟨kvs, hx, e'⟩
    · subst e'
      obtain ⟨its, r, pl, hz⟩ := I.list hx
      have hlen := r.length
      exact wpAny_truthy_list pl.isList (by simp only [List.size_toArray]; omega) ⟨H, I.tok _, by rw [isEmpty_of r]; exact q⟩
    · subst e'
      obtain ⟨its, r, pl, hz⟩ := I.tuple hx
      have hlen := r.length
      exact truthy_tuple pl (by simp only [List.size_toArray]; omega) ⟨H, I.tok _, by rw [isEmpty_of r]; exact q⟩
    · subst e'
      obtain ⟨hz, hS, vs, r, m⟩ : kvs.length ≤ sizeLine ∧ (p == sysModules) = false ∧ ∃ vs, KV kvs vs ∧ s.heap.DictOf (mixKind X.prog X.w) p vs := I.hok p _ hx
      have hlen : kvs.length = vs.length := Paired.length r
      exact wpAny_truthy_dict hS m (by omega) ⟨H, I.tok _, by rw [isEmpty_kv r]; exact q⟩
  | _ => exact (show False from e).elim
/-- any expression whose test is its value's truth (a name, a call, a subscript, a field ..: he by fun _ => rfl) -/
theorem pt_truth (ha : PE X a ta) (he : ∀ whole, isTrue a X.env whole = (do let v ← whole; standAt a.pos; holding [v] (truthy v))) :
    PT X a (fun σ H Q => ta σ H fun x H' => ∃ k, TruV X.K x H' k ∧ Q k H') := by
  intro pins s σ H Q I h
  exact isTrue_plain (thn (ha pins s σ H _ I h) fun v s1 ⟨x, H1, I1, r1, q1⟩ => tru_ok pins s1 σ H1 x v Q I1 r1 q1) (he _)

/-! ### strs and bytes -/


/-! ### scalar builtins, by CallR -/
theorem vals1 {x : V} {us : List Value} (r : Vals [x] us) : ∃ u, us = [u] ∧ RelV x u := by
  cases r with
  | cons r1 r2 => cases r2; exact ⟨_, rfl, r1⟩
theorem vals2 {x y : V} {us : List Value} (r : Vals [x, y] us) : ∃ u w', us = [u, w'] ∧ RelV x u ∧ RelV y w' := by
  cases r with
  | cons r1 r2 =>
    cases r2 with
    | cons r3 r4 => cases r4; exact ⟨_, _, rfl, r1, r3⟩
/-- len of a str, a bytes, a list, a tuple -/
def LenV (K : PySem.W.Frag) (x : V) (H : Hp) (n : Nat) : Prop :=
  match x with
  | .str y => y.length ≤ sizeLine ∧ n = y.length
  | .byt y => y.size ≤ sizeLine ∧ n = y.size
  | .ref p => (∃ xs, SqL K H p xs ∧ n = xs.length) ∨ ∃ xs, SqT K H p xs ∧ n = xs.length
  | _ => False
theorem call_len : CallR X (.builtin "len") (fun xs H Q => ∃ x n, xs = [x] ∧ LenV X.K x H n ∧ Q (.int n) H) := by
  intro pins s σ H xs us Q I r h
  obtain ⟨x, n, rfl, e, q⟩ := h
  obtain ⟨u, rfl, rx⟩ := vals1 r
  have hl := line63
  have hs : sizeLine = 16777216 := sizeLine_eq
  cases x with
  | str y =>
    obtain ⟨t, rfl⟩ := rx
    obtain ⟨hy, e'⟩ : y.length ≤ sizeLine ∧ n = y.length := e
    subst e'
    exact len_str (by omega) ⟨.int _, H, I.tok _, ⟨_, rfl⟩, q⟩
  | byt y =>
    obtain ⟨t, rfl⟩ := rx
    obtain ⟨hy, e'⟩ : y.size ≤ sizeLine ∧ n = y.size := e
    subst e'
    exact PySem.W.len_bytes (by omega) ⟨.int _, H, I.tok _, ⟨_, rfl⟩, q⟩
  | ref p =>
    cases rx
    have e' : (∃ xs, SqL X.K H p xs ∧ n = xs.length) ∨ ∃ xs, SqT X.K H p xs ∧ n = xs.length := e
    rcases e' with ⟨xs, hx, e'⟩ | ⟨xs, hx, e'⟩
    · subst e'
      obtain ⟨its, r', pl, hz⟩ := I.list hx
      have hlen := r'.length
      exact Calls.call_len_list pl.isList (by simp only [List.size_toArray]; omega) ⟨.int xs.length, H, I.tok _, ⟨_, by simp only [List.size_toArray]; rw [hlen]⟩, q⟩
    · subst e'
      obtain ⟨its, r', pl, hz⟩ := I.tuple hx
      have hlen := r'.length
      exact len_tuple pl (by simp only [List.size_toArray]; omega) ⟨.int xs.length, H, I.tok _, ⟨_, by simp only [List.size_toArray]; rw [hlen]⟩, q⟩
  | _ => exact (show False from e).elim
end
end L2

namespace L2
open PySem PySem.Spec PyProof.Rows

/-! ### an instance, its attributes a map -/
structure ObjM (h : Heap) (x dx C : Addr) (mA : Str → Option Value) : Prop where
  obj : h.get? x = some (PySem.W.instObj C dx)
  ns : h.Ns1 dx mA
  ne : dx ≠ x

theorem lookIn_ns {h : Heap} {dx : Addr} {mA : Str → Option Value} (n : h.Ns1 dx mA) : ∃ od, h.get? dx = some od ∧ ∀ name, PySem.W.lookIn name od = some (mA name) := by
  obtain ⟨o, es, ep, ho, hd, hk, _, hm⟩ := n
  refine ⟨o, ho, fun name => ?_⟩
  have e := hm name
  unfold nsFind findBy at e
  rw [← Array.find?_toList] at e
  unfold PySem.W.lookIn
  rw [hd]
  dsimp only
  split
  · rename_i y q
    rw [q] at e
    exact congrArg some e
  · rename_i q
    rw [q] at e
    have a : es.toList.any (·.refKey) = false := by
      rw [List.any_eq_false]
      intro y hy
      obtain ⟨z, t, hkey⟩ := hk y (Array.mem_toList_iff.mp hy)
      simp [DictEntry.refKey, hkey]
    have a' : ¬ es.toList.any (·.refKey) = true := by rw [a]; exact Bool.false_ne_true
    rw [if_neg a']
    exact congrArg some e

theorem ObjM.look {h : Heap} {x dx C : Addr} {mA : Str → Option Value} (I : ObjM h x dx C mA) : ∃ od, PySem.W.InstAt h x (PySem.W.instObj C dx) C (some od) ∧ ∀ name, PySem.W.lookIn name od = some (mA name) :=
  let ⟨od, ho, hl⟩ := lookIn_ns I.ns
  ⟨od, ⟨I.obj, rfl, rfl, ho⟩, hl⟩

section
variable {prog : Program} {w : World} {A : Around} {E : Value → Shared → Prop} {s : Shared} {K : PySem.W.Frag} {x dx C f : Addr} {mA : Str → Option Value} {name : Str} {v : Value}

theorem get_map {expr : Bool} {Q : Value → Shared → Prop} (X : K.In s.heap) (I : ObjM s.heap x dx C mA) (hg : PySem.W.plainGet K C name = true) (hh : PySem.W.hasDictIn K C = true)
    (ha : PySem.W.findIn K (.ref C) name = some none) (hv : mA name = some v) (hv' : PySem.W.handedIn v = true) (h : Q v { s with toks := s.toks + 1 }) :
    wpAny (model prog w) A (getAttr (.ref x) name expr) Q E s := by
  obtain ⟨od, J, hl⟩ := I.look
  exact PySem.W.get_value X J (PySem.W.plainGet_of hg).1 (PySem.W.findObj_own hh ha rfl (by rw [hl, hv])) hv' h


theorem get_meth {pl : Sem Bool} {Q : Value × List Value → Shared → Prop} (X : K.In s.heap) (I : ObjM s.heap x dx C mA) (hg : PySem.W.plainGet K C name = true)
    (hf : PySem.W.findIn K (.ref C) name = some (some (.ref f))) (ht : PySem.W.isFn K (.ref f) = true) (hv : mA name = none) (h : Q (.ref f, [.ref x]) s) :
    wpAny (model prog w) A (getMethod (.ref x) name pl) Q E s := by
  obtain ⟨od, J, hl⟩ := I.look
  exact PySem.W.method_fn X J (PySem.W.plainGet_of hg).1 (PySem.W.plainGet_of hg).2 hf (beq_iff_eq.mp ht) (by show (PySem.W.lookIn name od).map (·.isSome) = some false; rw [hl, hv]; rfl) h

theorem set_map {ns : List Str} {Q : Unit → Shared → Prop} (X : K.In s.heap) (I : ObjM s.heap x dx C mA)
    (hs : PySem.W.findIn K (.ref C) "__setattr__" = some (some (.builtin "object.__setattr__"))) (hp : PySem.W.plainOver K C = true) (ht : PySem.W.takerIn K C name = some none) (hh : PySem.W.hasDictIn K C = true)
    (hw : PySem.Within mA ns) (hsz : ns.length ≤ sizeLine)
    (h : ∀ h', ObjM h' x dx C (fun y => if y = name then some v else mA y) → Heap.SameBut dx s.heap h' → Q () { s with heap := h', toks := s.toks + 2 }) :
    wpAny (model prog w) A (setAttr (.ref x) name v) Q E s := by
  obtain ⟨od, J, hl⟩ := I.look
  refine PySem.W.set_plain X J hs (PySem.W.osa_open (s := { s with toks := s.toks + 1 }) (r := none) X J hp ht fun b => ?_)
  obtain ⟨cd, hc, hd'⟩ := PySem.W.any_some hh
  have hx : s.heap.get? x = some ⟨.ref C, some dx, .plain, #[]⟩ := I.obj
  refine wpAny_bind (wpAny_pure (wpAny_bind (wpAny_bind (wpAny_loadPart hx (wpAny_bind (PySem.W.Looks.here (s := { s with toks := s.toks + 1 }) (PySem.W.looks_clsIn X hc) ?_))))))
  rw [hd']
  refine wpAny_pure (a := some dx) (wpAny_bind (wpAny_pure (wpAny_bind ?_)))
  refine wpAny_nsSet1 (s := { s with toks := s.toks + 1 }) I.ns fun h' hn2 hs2 => ?_
  obtain ⟨oD, esD, epD, hoD, hdD, hcD⟩ := hn2.count (PySem.Within.cons name v hw)
  refine wpAny_bind (wpAny_lookBehind hoD (by rw [hdD]; exact pastItsLine_dict (Nat.le_trans hcD (by rw [List.length_cons]; omega))) ?_)
  exact wpAny_pure (h _ ⟨(hs2.2 _ (Ne.symm I.ne)).trans I.obj, hn2, I.ne⟩ hs2)

/-- C(..): the dict at the heap's end, the instance behind it; then its __init__ -/
theorem make_map {R : Result → Shared → Prop} {vs : List Value} {kw : List (Str × Value)} (X : K.In s.heap) (hm : PySem.W.makesIn K C = true)
    (hi : PySem.W.findIn K (.ref C) "__init__" = some (some (.ref f))) (hf : PySem.W.typeIn K (.ref f) = some (.type "function"))
    (h : codeAny (model prog w) (A.under (.builtin "type.__call__" ⟨.ref C :: vs, kw⟩)) (.call (.ref f) ⟨.ref (s.heap.objs.size + 1) :: vs, kw⟩) (PySem.W.InitBack (s.heap.objs.size + 1) R)
      { s with heap := (s.heap.push PySem.W.emptyDict).push (PySem.W.instObj C s.heap.objs.size) }) :
    codeAny (model prog w) A (.call (.ref C) ⟨vs, kw⟩) R s := by
  obtain ⟨hh, g, d, t, os⟩ := s
  exact PySem.W.make_core (PySem.W.makes_of X hm) (PySem.W.looks_findIn X hi) (fun self => PySem.W.bind_fn X self hf) (.inl rfl) h
end

/-! ### the attributes as a list of pairs -/
def putF (f : Str) (v : V) : List (Str × V) → List (Str × V)
  | [] => [(f, v)]
  | (g, x) :: r => if g = f then (g, v) :: r else (g, x) :: putF f v r
theorem lookup_putF (f g : Str) (v : V) : ∀ fs : List (Str × V), (putF f v fs).lookup g = if g = f then some v else fs.lookup g
  | [] => by
    show List.lookup g [(f, v)] = _
    by_cases h : g = f
    · have hb : (g == f) = true := beq_iff_eq.mpr h
      simp only [List.lookup, hb, if_pos h]
    · have hb : (g == f) = false := beq_eq_false_iff_ne.mpr h
      simp only [List.lookup, hb, if_neg h]
  | (k, x) :: r => by
    have ih := lookup_putF f g v r
    rw [show putF f v ((k, x) :: r) = (if k = f then (k, v) :: r else (k, x) :: putF f v r) from rfl]
    by_cases hk : k = f
    · rw [if_pos hk]
      by_cases h : g = k
      · have hb : (g == k) = true := beq_iff_eq.mpr h
        simp only [List.lookup, hb, if_pos (h.trans hk)]
      · have hb : (g == k) = false := beq_eq_false_iff_ne.mpr h
        simp only [List.lookup, hb, if_neg (fun e : g = f => h (e.trans hk.symm))]
    · rw [if_neg hk]
      by_cases h : g = k
      · have hb : (g == k) = true := beq_iff_eq.mpr h
        simp only [List.lookup, hb, if_neg (fun e : g = f => hk (h.symm.trans e))]
      · have hb : (g == k) = false := beq_eq_false_iff_ne.mpr h
        simp only [List.lookup, hb]
        exact ih
theorem keys_putF (f : Str) (v : V) : ∀ fs : List (Str × V), f ∈ (putF f v fs).map (·.1) ∧ ∀ g, g ∈ fs.map (·.1) → g ∈ (putF f v fs).map (·.1)
  | [] => ⟨by simp [putF], fun g h => by simp at h⟩
  | (k, x) :: r => by
    obtain ⟨i1, i2⟩ := keys_putF f v r
    rw [show putF f v ((k, x) :: r) = (if k = f then (k, v) :: r else (k, x) :: putF f v r) from rfl]
    by_cases hk : k = f
    · rw [if_pos hk]
      subst hk
      exact ⟨by simp, fun g h => by simpa using h⟩
    · rw [if_neg hk]
      refine ⟨?_, fun g h => ?_⟩
      · rw [List.map_cons]
        exact List.mem_cons_of_mem _ i1
      · rw [List.map_cons] at h ⊢
        rcases List.mem_cons.mp h with e | e
        · exact List.mem_cons.mpr (.inl e)
        · exact List.mem_cons_of_mem _ (i2 g e)
theorem length_putF (f : Str) (v : V) : ∀ fs : List (Str × V), (putF f v fs).length ≤ fs.length + 1
  | [] => by simp [putF]
  | (k, x) :: r => by
    have ih := length_putF f v r
    rw [show putF f v ((k, x) :: r) = (if k = f then (k, v) :: r else (k, x) :: putF f v r) from rfl]
    by_cases hk : k = f
    · rw [if_pos hk, List.length_cons, List.length_cons]; omega
    · rw [if_neg hk, List.length_cons, List.length_cons]; omega

theorem RelO.some_of {v : V} {o : Option Value} (r : RelO (some v) o) : ∃ u, o = some u ∧ RelV v u := by
  cases o with
  | none => exact (show False from r).elim
  | some u => exact ⟨u, rfl, r⟩
theorem RelO.none_of {o : Option Value} (r : RelO none o) : o = none := by
  cases o with
  | none => rfl
  | some u => exact (show False from r).elim
theorem handed_of {v : V} {u : Value} (r : RelV v u) : PySem.W.handedIn u = true := by
  cases v with
  | non => cases (show u = Value.none from r); rfl
  | bl b => cases (show u = Value.bool b from r); rfl
  | int i => obtain ⟨t, e⟩ := (show ∃ t, u = Value.int i t from r); cases e; rfl
  | str x => obtain ⟨t, e⟩ := (show ∃ t, u = Value.str x t from r); cases e; rfl
  | byt b => obtain ⟨t, e⟩ := (show ∃ t, u = Value.bytes b t from r); cases e; rfl
  | flt b => obtain ⟨t, e⟩ := (show ∃ t, u = Value.float b t from r); cases e; rfl
  | ref a => cases (show u = Value.ref a from r); rfl
  | ty n => cases (show u = Value.type n from r); rfl

section
variable {P : Program} {w : World} {H H' : Hp} {h h' : Heap} {a C dx : Addr} {fs fs' : List (Str × V)}
theorem ins_get (hok : HOk P w H h) (e : H a = some (.ins C dx fs)) : ∃ mA, ObjM h a dx C mA ∧ (∀ f, RelO (fs.lookup f) (mA f)) ∧ PySem.Within mA (fs.map (·.1)) ∧ fs.length ≤ 1000 ∧ H dx = some (.own a) := by
  obtain ⟨d, z, ne, ob, mA, n, r, q⟩ := (show ObjOk P w H h a (.ins C dx fs) from hok a _ e)
  exact ⟨mA, ⟨ob, n, ne⟩, r, q, z, d⟩
end

/-! ### what of the text a class must have -/
structure Cls (K : PySem.W.Frag) (C : Addr) : Prop where
  pg : PySem.W.plainGet K C Str.empty = true
  hd : PySem.W.hasDictIn K C = true
  po : PySem.W.plainOver K C = true
  sa : PySem.W.findIn K (.ref C) "__setattr__" = some (some (.builtin "object.__setattr__"))
theorem Cls.get {K : PySem.W.Frag} {C : Addr} (c : Cls K C) (f : Str) : PySem.W.plainGet K C f = true := c.pg
/-- no class of it has the name -/
def NoAttr (K : PySem.W.Frag) (C : Addr) (f : Str) : Prop := PySem.W.findIn K (.ref C) f = some none
theorem NoAttr.taker {K : PySem.W.Frag} {C : Addr} {f : Str} (n : NoAttr K C f) : PySem.W.takerIn K C f = some none := by
  unfold PySem.W.takerIn
  rw [show PySem.W.findIn K (.ref C) f = some none from n]
  rfl
/-- a constant of the class -/
structure Con (K : PySem.W.Frag) (C : Addr) (f : Str) (v : V) (u : Value) : Prop where
  at_ : PySem.W.findIn K (.ref C) f = some (some u)
  rel : RelV v u
  get : PySem.W.specialIn K u "__get__" = some none
  cp : PySem.W.copiedNames.contains f = false
/-- a method: a plain def of the class or of one above it -/
structure Meth (K : PySem.W.Frag) (C : Addr) (m : Str) (f : Addr) : Prop where
  at_ : PySem.W.findIn K (.ref C) m = some (some (.ref f))
  fn : PySem.W.isFn K (.ref f) = true
  kp : PySem.W.keepIn K (.ref f) = true

section
variable {X : Cx} {pins : List (Addr × Obj)} {σ : St} {H : Hp} {s : Shared} {a C dx : Addr} {fs : List (Str × V)} {f : Str} {v : V} {A : Around} {E : Value → Shared → Prop}

theorem getattr_ok {b : Bool} {Q : Value → Shared → Prop} (I : Inv X pins σ H s) (e : H a = some (.ins C dx fs)) (c : Cls X.K C) (n : NoAttr X.K C f) (l : fs.lookup f = some v)
    (h : ∀ u s', Inv X pins σ H s' → RelV v u → Q u s') : wpAny (model X.prog X.w) A (getAttr (.ref a) f b) Q E s := by
  obtain ⟨mA, O, r, _, _, _⟩ := ins_get I.hok e
  obtain ⟨u, hu, ru⟩ := RelO.some_of (v := v) (o := mA f) (by rw [← l]; exact r f)
  exact get_map I.kIn O (c.get f) c.hd n hu (handed_of ru) (h u _ (I.tok _) ru)


theorem getmeth_ok {m : Str} {g : Addr} {pl : Sem Bool} {Q : Value × List Value → Shared → Prop} (I : Inv X pins σ H s) (e : H a = some (.ins C dx fs)) (c : Cls X.K C) (k : Meth X.K C m g) (l : fs.lookup m = none)
    (h : Q (.ref g, [.ref a]) s) : wpAny (model X.prog X.w) A (getMethod (.ref a) m pl) Q E s := by
  obtain ⟨mA, O, r, _, _, _⟩ := ins_get I.hok e
  have hn : mA m = none := RelO.none_of (by rw [← l]; exact r m)
  exact get_meth I.kIn O (c.get m) k.at_ k.fn hn h

theorem setattr_ok {y : V} {u : Value} {Q : Unit → Shared → Prop} (I : Inv X pins σ H s) (e : H a = some (.ins C dx fs)) (c : Cls X.K C) (n : NoAttr X.K C f) (hl : fs.length < 1000) (ry : RelV y u)
    (h : ∀ s', Inv X pins σ (upd H a (.ins C dx (putF f y fs))) s' → Q () s') : wpAny (model X.prog X.w) A (setAttr (.ref a) f u) Q E s := by
  obtain ⟨mA, O, r, wi, _, ho⟩ := ins_get I.hok e
  have hz : (fs.map (·.1)).length ≤ sizeLine := by rw [List.length_map, sizeLine_eq]; omega
  refine set_map I.kIn O c.sa c.po n.taker c.hd wi hz fun h' O' sb => h _ ?_
  have hd : ∃ o, h'.get? dx = some o := let ⟨o, _, _, e', _⟩ := O'.ns; ⟨o, e'⟩
  refine I.write (x := a) (e := dx) (by rw [e]; exact True.intro) (.inr ho) (fun b q hb z => (sb.2 b hb).trans z) hd ?_
  refine ⟨by rw [upd_ne O.ne]; exact ho, ?_, O.ne, O'.obj, _, O'.ns, fun g => ?_, fun g hg => ?_⟩
  · have := length_putF f y fs; omega
  · show RelO ((putF f y fs).lookup g) (if g = f then some u else mA g)
    rw [lookup_putF]
    by_cases q : g = f
    · rw [if_pos q, if_pos q]; exact ry
    · rw [if_neg q, if_neg q]; exact r g
  · by_cases q : g = f
    · rw [q]; exact (keys_putF f y fs).1
    · refine (keys_putF f y fs).2 g (wi g fun z => hg ?_)
      show (if g = f then some u else mA g) = none
      rw [if_neg q]; exact z

/-- a new instance, tracked, without attributes -/
theorem Inv.made (I : Inv X pins σ H s) : Inv X pins σ (upd (upd H s.heap.objs.size (.own (s.heap.objs.size + 1))) (s.heap.objs.size + 1) (.ins C s.heap.objs.size []))
    { s with heap := (s.heap.push PySem.W.emptyDict).push (PySem.W.instObj C s.heap.objs.size) } := by
  have e1 : (s.heap.push PySem.W.emptyDict).get? s.heap.objs.size = some PySem.W.emptyDict := Heap.get?_push_size s.heap rfl
  have e2 : ((s.heap.push PySem.W.emptyDict).push (PySem.W.instObj C s.heap.objs.size)).get? (s.heap.objs.size + 1) = some (PySem.W.instObj C s.heap.objs.size) := by
    have := Heap.get?_push_size (s.heap.push PySem.W.emptyDict) (o := PySem.W.instObj C s.heap.objs.size) rfl
    rwa [Heap.size_push] at this
  have e3 : (s.heap.push PySem.W.emptyDict).Ns s.heap.objs.size (fun _ => none) := ⟨PySem.W.emptyDict, #[], _, e1, rfl, (fun e he => absurd he (by simp)), fun _ => rfl⟩
  have I1 := I.laid (a := s.heap.objs.size) (o := .own (s.heap.objs.size + 1)) (h' := s.heap.push PySem.W.emptyDict) (t' := s.toks) (fun b u q => Heap.get?_push_of_some _ q) (Nat.le_refl _) ⟨_, e1⟩
  refine I1.laid (a := s.heap.objs.size + 1) (o := .ins C s.heap.objs.size []) (t' := s.toks) (fun b u q => Heap.get?_push_of_some _ q) (Nat.le_of_eq (Heap.size_push _ _)) ?_
  have ne : s.heap.objs.size ≠ s.heap.objs.size + 1 := Nat.ne_of_lt (Nat.lt_succ_self _)
  refine ⟨by rw [upd_ne ne, upd_same], Nat.zero_le _, ne, e2, fun _ => none, (Heap.Ns1.of_empty e3).at fun o q => Heap.get?_push_of_some _ q, fun _ => True.intro, fun y hy => absurd rfl hy⟩

/-- e.f where nothing but the object is asked: through attributeBase (super) and the last hold -/
theorem attr_of {prog : Program} {w : World} {env : Env} {e : Expr} {f : Str} {pos : Pos} {s : Shared} {Q : Value → Shared → Prop} (hb : attributeBase e f env (eval e env) = eval e env)
    (h : wpAny (model prog w) A (eval e env) (fun o s₁ => wpAny (model prog w) A (getAttr o f true) Q E s₁) E s) : wpAny (model prog w) A (eval (.Attribute e f pos) env) Q E s :=
  Attribute_any_ h (by rw [arm_eval_Attribute, hb])
end

/-! ### readings and rules -/
/-- e.f, an attribute of the instance -/
def tFld (K : PySem.W.Frag) (ta : TE) (f : Str) : TE := fun σ H Q => ta σ H fun x H1 => ∃ a C dx fs v, x = .ref a ∧ H1 a = some (.ins C dx fs) ∧ Cls K C ∧ NoAttr K C f ∧ fs.lookup f = some v ∧ Q v H1
/-- e.f = value -/
def sFld (K : PySem.W.Frag) (ta tv : TE) (f : Str) : TS := fun D σ H => tv σ H fun y H1 => ta σ H1 fun x H2 => ∃ a C dx fs, x = .ref a ∧ H2 a = some (.ins C dx fs) ∧ Cls K C ∧ NoAttr K C f ∧ fs.length < 1000 ∧
  D.nx σ (upd H2 a (.ins C dx (putF f y fs)))

section
variable {X : Cx} {o e value : Expr} {f : Str} {pos pos' tpos : Pos} {ta tv : TE}
theorem pe_fld (he : PE X e ta) (hb : attributeBase e f X.env (eval e X.env) = eval e X.env) : PE X (.Attribute e f pos) (tFld X.K ta f) := by
  intro pins s σ H Q I h
  refine attr_of hb (thn (he pins s σ H _ I h) fun u s1 ⟨x, H1, I1, rx, a, C, dx, fs, v, ex, ea, c, n, l, q⟩ => ?_)
  subst ex
  obtain rfl : u = Value.ref a := rx
  exact getattr_ok I1 ea c n l fun u' s2 I2 ru => ⟨v, H1, I2, ru, q⟩
theorem ps_fld (ha : PE X o ta) (hv : PE X value tv) (hs : swapsWith value (some (.Attribute o f pos')) pos.line X.env = pure false) : PS X (.Assign [.Attribute o f pos'] value pos) (sFld X.K ta tv f) := by
  intro pins s σ H D I h
  refine plainObj_wpAny_Assign_Attribute (thn (hv pins s σ H _ I h) fun u s1 ⟨y, H1, I1, ry, q⟩ => thn (ha pins s1 σ H1 _ I1 q) fun ov s2 ⟨x, H2, I2, rx, a, C, dx, fs, ex, ea, c, n, l, q2⟩ => ?_) hs
  subst ex
  obtain rfl : ov = Value.ref a := rx
  exact setattr_ok I2 ea c n l ry fun s3 I3 => ⟨σ, _, I3, q2⟩

end

/-! ### isinstance -/
section
variable {X : Cx} {pins : List (Addr × Obj)} {σ : St} {H : Hp} {s : Shared} {A : Around} {E : Value → Shared → Prop} {Q : Value → Shared → Prop} {c : Value} {b : Bool}
/-- the type of a value, as the fragment's deciders take it; for an instance its class -/
inductive TyOf (K : PySem.W.Frag) (H : Hp) : V → Value → Prop where
  | non : TyOf K H .non (.type "NoneType")
  | bl (x : Bool) : TyOf K H (.bl x) (.type "bool")
  | int (i : Int) : TyOf K H (.int i) (.type "int")
  | str (x : Str) : TyOf K H (.str x) (.type "str")
  | flt (x : UInt64) : TyOf K H (.flt x) (.type "float")
  | lst {a : Addr} {xs : List V} (e : H a = some (.lst xs)) : TyOf K H (.ref a) (.type "list")
  | frz {a : Addr} {o : Obj} {xs : List V} (e : H a = some (.frz o (.lst xs))) : TyOf K H (.ref a) (.type "list")
  | tup {a : Addr} {xs : List V} (e : H a = some (.tup xs)) : TyOf K H (.ref a) (.type "tuple")
  | dK {a : Addr} {kvs : List (Key × V)} (e : H a = some (.dK kvs)) : TyOf K H (.ref a) (.type "dict")
  | dT {a : Addr} {kvs : List (List Key × V)} (e : H a = some (.dT kvs)) : TyOf K H (.ref a) (.type "dict")
  | ins {a C dx : Addr} {fs : List (Str × V)} (e : H a = some (.ins C dx fs)) (cl : Cls K C) (ha : PySem.W.findIn K (.ref C) "__class__" = some (some (.builtin "object.__class__")))
      (hn : PySem.W.specialIn K (.builtin "object.__class__") "__get__" = some (some (.builtin "getset_descriptor.__get__"))) (htk : PySem.W.takesIn K (.builtin "object.__class__") = some true)
      (hm : PySem.W.mroIn K C (.type "object") = some true) : TyOf K H (.ref a) (.ref C)
end
end L2

namespace L2
open PySem PySem.Spec PyProof.Rows

/-! ### room -/
structure Room (k : Nat) (A : Around) : Prop where
  hd : A.handled = none
  dp : A.depth + 3 * k + 5 < recursionLimit
  un : A.units + 16 * k + 200 < cLine
theorem Room.mono {j k : Nat} {A : Around} (r : Room k A) (h : j ≤ k) : Room j A := ⟨r.hd, by have := r.dp; omega, by have := r.un; omega⟩
theorem Room.deeper {k : Nat} {A : Around} (r : Room (k + 1) A) (env : Env) : Room k (A.deeper env) :=
  ⟨r.hd, by have := r.dp; show A.depth + 1 + 3 * k + 5 < _; omega, by have := r.un; show A.units + 3 + 16 * k + 200 < _; omega⟩
theorem Room.in1 {k : Nat} {A : Around} (r : Room (k + 1) A) : Room k A.in1 :=
  ⟨r.hd, by have := r.dp; show A.depth + 3 * k + 5 < _; omega, by have := r.un; show A.units + 1 + 16 * k + 200 < _; omega⟩
theorem make_depth {A : Around} {C : Addr} {us : List Value} {kw : List (Str × Value)} : (A.under (.builtin "type.__call__" ⟨.ref C :: us, kw⟩)).depth = A.depth + 1 := by
  first | rfl | simp [Around.under, Code.weight, Code.isCreation, Code.isGuard, Code.isCaller, Code.frames, Code.isFrame, guardIds]
theorem make_units {A : Around} {C : Addr} {us : List Value} {kw : List (Str × Value)} : (A.under (.builtin "type.__call__" ⟨.ref C :: us, kw⟩)).units = A.units + 1 := by
  first | rfl | simp [Around.under, Code.cUnits, Code.frames, Code.isFrame]
theorem Room.make {k : Nat} {A : Around} (r : Room (k + 1) A) (C : Addr) (us : List Value) (kw : List (Str × Value)) : Room k (A.under (.builtin "type.__call__" ⟨.ref C :: us, kw⟩)) :=
  ⟨r.hd, by have := r.dp; rw [make_depth]; omega, by have := r.un; rw [make_units]; omega⟩
theorem Room.depth {k : Nat} {A : Around} (r : Room k A) : A.depth < recursionLimit := by have := r.dp; omega
theorem Room.units {k : Nat} {A : Around} (r : Room k A) : A.units + 64 < cLine := by have := r.un; omega

/-! ### argument lists and displays -/
def tNil : TA := fun _ H Q => Q [] H
def tCons (ta : TE) (tr : TA) : TA := fun σ H Q => ta σ H fun x H1 => tr σ H1 fun xs H2 => Q (x :: xs) H2
section
variable {X : Cx} {e : Expr} {es : List Expr} {te : TE} {t : TA} {pos : Pos}
theorem pa_nil : PA X [] tNil := fun _ _ _ _ H Q I h => Calls.spliced_nil ⟨[], H, I, .nil, h⟩
theorem pa_cons (ha : PE X e te) (hr : PA X es t) (hs : starEach (e :: es) X.env = (false, eval e X.env) :: starEach es X.env := by rfl) : PA X (e :: es) (tCons te t) := by
  intro pos pins s σ H Q I h
  rw [hs]
  show wpAny _ _ (spliced ((false, eval e X.env) :: backTo pos (starEach es X.env))) _ _ s
  refine Calls.spliced_cons (thn (ha pins s σ H _ I h) fun u s1 ⟨x, H1, I1, r1, q1⟩ => ?_)
  exact thn (hr pos pins s1 σ H1 _ I1 q1) fun us s2 ⟨xs, H2, I2, r2, q2⟩ => ⟨x :: xs, H2, I2, .cons r1 r2, q2⟩

/-- a tuple, a list of written items -/
def tTup (t : TA) : TE := fun σ H Q => t σ H fun xs H1 => xs.length ≤ sizeLine ∧ ∀ p, H1 p = none → Q (.ref p) (upd H1 p (.tup xs))
def tLst (t : TA) : TE := fun σ H Q => t σ H fun xs H1 => xs.length ≤ sizeLine ∧ ∀ p, H1 p = none → Q (.ref p) (upd H1 p (.lst xs))
theorem pe_tup {x1} (h : PA X es t) : PE X (.Tuple es x1 pos) (tTup t) := by
  intro pins s σ H Q I hq
  refine wpAny_Tuple_spliced (thn (h pos pins s σ H _ I hq) fun us s1 ⟨xs, H1, I1, r, z, q⟩ => ⟨by rw [← r.length]; exact z, ?_⟩)
  have hf : H1 s1.heap.objs.size = none := I1.hok.fresh (Nat.le_refl _)
  refine ⟨.ref s1.heap.objs.size, upd H1 s1.heap.objs.size (.tup xs), I1.laid (t' := s1.toks) (fun b u e => Heap.get?_push_of_some _ e) (Nat.le_refl _) ?_, rfl, q _ hf⟩
  exact ⟨z, us, r, TupN.new _ _⟩
theorem pe_lst (h : PA X es t) : PE X (.List es pos) (tLst t) := by
  intro pins s σ H Q I hq
  refine wpAny_List_spliced (thn (h pos pins s σ H _ I hq) fun us s1 ⟨xs, H1, I1, r, z, q⟩ => ⟨by rw [← r.length]; exact z, ?_⟩)
  have hf : H1 s1.heap.objs.size = none := I1.hok.fresh (Nat.le_refl _)
  refine ⟨.ref s1.heap.objs.size, upd H1 s1.heap.objs.size (.lst xs), I1.laid (t' := s1.toks) (fun b u e => Heap.get?_push_of_some _ e) (Nat.le_refl _) ?_, rfl, q _ hf⟩
  exact ⟨z, us, 0, r, Heap.get?_push_size _ rfl⟩
end

/-! ### what a def promises -/
/-- a def's promise: the bound arguments in the parameters' order, the heap, the wanted end, the wanted exception -/
abbrev Sp := List V → Hp → VK → XK → Prop
/-- how an exception lies behind a call (file 08 gives it): the callers' frames, abstract heap and state ahead of the call, the wish, the exception, the state -/
abbrev CXT := List Env → Hp → Shared → XK → Value → Shared → Prop

/-- the state at a call -/
structure Env0 (P : Program) (w : World) (K : PySem.W.Frag) (mg : Str → Option Value) (base : Heap) (A : Around) (outer : List Env) (s : Shared) (H : Hp) : Prop where
  frames : A.frames = some outer
  mod : Mod K mg base
  bs : ∀ b o, base.get? b = some o → s.heap.get? b = some o ∧ H b = none
  bsz : base.objs.size ≤ s.heap.objs.size
  funs : s.heap.FunFrames base outer
  frf : ∀ b ∈ frs outer, H b = none
  hok : HOk P w H s.heap
  bare : AllBare s.gens
/-- a call's end -/
def CE (outer : List Env) (P : Program) (w : World) (H : Hp) (s : Shared) (Q : VK) (u : Value) (s' : Shared) : Prop :=
  ∃ v H', s'.os = s.os ∧ AllBare s'.gens ∧ Un (frs outer) [] H H' s.heap s'.heap ∧ HOk P w H' s'.heap ∧ RelV v u ∧ Q v H'
def CR (CX : CXT) (outer : List Env) (P : Program) (w : World) (H : Hp) (s : Shared) (Q : VK) (E : XK) (r : Result) (s' : Shared) : Prop :=
  match r with
  | .ok (.ret u) => CE outer P w H s Q u s'
  | .ok _ => False
  | .error e => CX outer H s E e s'
structure FnOk (P : Program) (w : World) (K : PySem.W.Frag) (mg : Str → Option Value) (base : Heap) (CX : CXT) (k : Nat) (f : Addr) (fd : FuncData) (ps : List Str) (sp : Sp) : Prop where
  len : ∀ vs H Q E, sp vs H Q E → vs.length = ps.length
  run : ∀ (A : Around) (outer : List Env) (s : Shared) (H : Hp) (args : Args) (us : List Value) (vs : List V) (Q : VK) (E : XK), Room k A → Env0 P w K mg base A outer s H → BindsTo s fd args (ps.zip us) → Vals vs us → sp vs H Q E →
    codeAny (model P w) A (.call (.ref f) args) (CR CX outer P w H s Q E) s
theorem FnOk.mono {P : Program} {w : World} {K : PySem.W.Frag} {mg : Str → Option Value} {base : Heap} {CX : CXT} {j k : Nat} {f : Addr} {fd : FuncData} {ps : List Str} {sp : Sp} (F : FnOk P w K mg base CX j f fd ps sp) (h : j ≤ k) :
    FnOk P w K mg base CX k f fd ps sp := ⟨F.len, fun A outer s H args us vs Q E hr => F.run A outer s H args us vs Q E (hr.mono h)⟩
/-- a weaker promise -/
theorem FnOk.imp {P : Program} {w : World} {K : PySem.W.Frag} {mg : Str → Option Value} {base : Heap} {CX : CXT} {k : Nat} {f : Addr} {fd : FuncData} {ps : List Str} {sp sp' : Sp} (F : FnOk P w K mg base CX k f fd ps sp)
    (h : ∀ vs H Q E, sp' vs H Q E → sp vs H Q E) : FnOk P w K mg base CX k f fd ps sp' :=
  ⟨fun vs H Q E q => F.len vs H Q E (h _ _ _ _ q), fun A outer s H args us vs Q E hr he hb hv hs => F.run A outer s H args us vs Q E hr he hb hv (h _ _ _ _ hs)⟩

theorem Env0.make {P : Program} {w : World} {K : PySem.W.Frag} {mg : Str → Option Value} {base : Heap} {A : Around} {outer : List Env} {s : Shared} {H : Hp} (e : Env0 P w K mg base A outer s H) (C : Addr) (us : List Value) (kw : List (Str × Value)) :
    Env0 P w K mg base (A.under (.builtin "type.__call__" ⟨.ref C :: us, kw⟩)) outer s H := ⟨by first | exact e.frames | (simpa [Around.under, Code.envs, Code.isFrame, pushEnvs] using e.frames), e.mod, e.bs, e.bsz, e.funs, e.frf, e.hok, e.bare⟩
theorem Env0.in1 {P : Program} {w : World} {K : PySem.W.Frag} {mg : Str → Option Value} {base : Heap} {A : Around} {outer : List Env} {s : Shared} {H : Hp} (e : Env0 P w K mg base A outer s H) :
    Env0 P w K mg base A.in1 outer s H := ⟨e.frames, e.mod, e.bs, e.bsz, e.funs, e.frf, e.hok, e.bare⟩

section
variable {X : Cx} {pins : List (Addr × Obj)} {σ : St} {H : Hp} {s s' : Shared}
/-- from a body: what a callee wants -/
theorem Inv.env0 (I : Inv X pins σ H s) : Env0 X.prog X.w X.K X.mg X.base X.A X.stack s H :=
  ⟨I.ok.frames, I.ok.mod, I.bs, Nat.le_trans I.ok.bsz I.sz, I.stack, I.stkFree, I.hok, I.bare⟩
/-- behind a call -/
theorem Inv.after {Q : VK} {u : Value} (I : Inv X pins σ H s) (h : CE X.stack X.prog X.w H s Q u s') : EP X pins σ Q u s' := by
  obtain ⟨v, H', os, bare, un, hok, r, q⟩ := h
  obtain ⟨hh, g, d, t, os'⟩ := s'
  obtain rfl : os' = s.os := os
  exact ⟨v, H', I.call (h' := hh) (g' := g) (d' := d) (t' := t) (ch := []) un hok bare (fun b z => absurd z (by simp)), r, q⟩
end

/-! ### calls -/
/-- f(..): the written arguments, then the defaults dvs; E: what is wanted of an exception -/
def tCall (sp : Sp) (dvs : List V) (E : XK) (t : TA) : TE := fun σ H Q => t σ H fun vs H1 => sp (vs ++ dvs) H1 Q E
/-- o.m(..) of an instance of the class at C -/
def tMeth (C : Addr) (m : Str) (sp : Sp) (dvs : List V) (E : XK) (ta : TE) (t : TA) : TE := fun σ H Q => ta σ H fun x H1 => ∃ a dx fs, x = .ref a ∧ H1 a = some (.ins C dx fs) ∧ fs.lookup m = none ∧
  t σ H1 fun vs H2 => sp (x :: (vs ++ dvs)) H2 Q E
/-- C(..): a new instance and its dict, then __init__ -/
def tMake (C : Addr) (sp : Sp) (dvs : List V) (E : XK) (t : TA) : TE := fun σ H Q => t σ H fun vs H1 => ∀ x dx, H1 x = none → H1 dx = none → dx ≠ x →
  sp (.ref x :: (vs ++ dvs)) (upd (upd H1 dx (.own x)) x (.ins C dx [])) (fun v H2 => v = .non ∧ Q (.ref x) H2) E

/-- how the parameters are bound: us the positional arguments, kw the keywords' values by name, ds the defaults that fill up -/
def Binds (K : PySem.W.Frag) (fd : FuncData) (ps : List Str) (ds : List Value) : Prop :=
  ∀ (s : Shared) (us : List Value), K.In s.heap → (us ++ ds).length = ps.length → BindsTo s fd ⟨us, []⟩ (ps.zip (us ++ ds))
/-- every parameter is given -/
theorem Binds.all {K : PySem.W.Frag} {fd : FuncData} {ps : List Str} (h : ∀ us : List Value, us.length = ps.length → bindArgs fd ⟨us, []⟩ = pure (ps.zip us)) : Binds K fd ps [] := fun s us _ hl => by
  rw [List.append_nil] at hl ⊢
  exact .of_eq (h us hl)

/-- an exception of a callee reaches what this body wants of exceptions -/
def Passes (CX : CXT) (X : Cx) (E : XK) : Prop := ∀ (pins : List (Addr × Obj)) (σ : St) (H : Hp) (s : Shared) (e : Value) (s' : Shared), Inv X pins σ H s → CX X.stack H s E e s' → X.xe e s'

section
variable {X : Cx} {CX : CXT} {k : Nat} {f C : Addr} {fd : FuncData} {ps : List Str} {sp : Sp} {dvs : List V} {ds : List Value} {E : XK} {x m : Str} {p pos apos : Pos} {e o : Expr} {es : List Expr} {ta : TE} {t : TA}

/-- the callee runs -/
theorem run_fn {pins : List (Addr × Obj)} {σ : St} {H : Hp} {s : Shared} {Q : VK} {us : List Value} {vs : List V} (F : FnOk X.prog X.w X.K X.mg X.base CX k f fd ps sp) (hr : Room k X.A) (hb : Binds X.K fd ps ds) (hd : Vals dvs ds) (hx : Passes CX X E)
    (I : Inv X pins σ H s) (r : Vals vs us) (h : sp (vs ++ dvs) H Q E) : wpAny (model X.prog X.w) X.A (call (.ref f) us) (EP X pins σ Q) X.xe s := by
  have r2 : Vals (vs ++ dvs) (us ++ ds) := r.append hd
  have hl : (us ++ ds).length = ps.length := by rw [← r2.length]; exact F.len _ _ _ _ h
  refine wpAny_call (codeAny_mono (F.run X.A X.stack s H ⟨us, []⟩ (us ++ ds) (vs ++ dvs) Q E hr I.env0 (hb s us I.kIn hl) r2 h) fun r s' hq => ?_)
  cases r with
  | error e => exact hx pins σ H s e s' I hq
  | ok fl =>
    cases fl with
    | ret u => exact I.after hq
    | next => exact False.elim hq
    | brk => exact False.elim hq
    | cont => exact False.elim hq

theorem pe_call (F : FnOk X.prog X.w X.K X.mg X.base CX k f fd ps sp) (hr : Room k X.A) (hg : Gl X x) (hm : X.mg x = some (.ref f)) (hk : PySem.W.keepIn X.K (.ref f) = true) (hb : Binds X.K fd ps ds) (hd : Vals dvs ds) (hx : Passes CX X E)
    (ha : PA X (e :: es) t) (hdb : (x == ("__debug__" : Str)) = false := by decide) (he : starEach (e :: es) X.env = (false, eval e X.env) :: starEach es X.env := by rfl) (hpl : (backTo pos (starEach es X.env)).any (·.1) = false := by rfl) :
    PE X (.Call (.Name x p) (e :: es) [] pos) (tCall sp dvs E t) := by
  intro pins s σ H Q I h
  refine wpAny_Call_Name_kw (ld_glob I hg hm ?_ hdb)
  refine PySem.W.callWith_K (h₀ := X.base) I.ok.mod.kin hk (thn (ha pos pins s σ H _ I h) fun us s1 ⟨vs, H1, I1, r, q⟩ => ⟨I1.kIn, ?_⟩) he hpl
  exact run_fn F hr hb hd hx I1 r q

/-- o.m(e, ..) -/
theorem pe_meth {pl : Sem Bool} (he : PE X o ta) (c : Cls X.K C) (hm : Meth X.K C m f) (F : FnOk X.prog X.w X.K X.mg X.base CX k f fd ps sp) (hr : Room k X.A) (hb : Binds X.K fd ps ds) (hd : Vals dvs ds) (hx : Passes CX X E) (ha : PA X (e :: es) t)
    (hst : starEach (e :: es) X.env = (false, eval e X.env) :: starEach es X.env := by rfl) (hpl : (backTo pos (starEach es X.env)).any (·.1) = false := by rfl)
    (ht : eval (.Call (.Attribute o m apos) (e :: es) [] pos) X.env = (do
      let ov ← eval o X.env
      standAt apos.atName
      let (f, first) ← holding [ov] (getMethod ov m pl)
      callWith pos f first (backTo pos (starEach (e :: es) X.env)) (backToKw pos (keywordEach [] X.env))) := by rfl) :
    PE X (.Call (.Attribute o m apos) (e :: es) [] pos) (tMeth C m sp dvs E ta t) := by
  intro pins s σ H Q I h
  refine PySem.W.methodCall_KW (pl := pl) (thn (he pins s σ H _ I h) fun u s1 ⟨x, H1, I1, rx, a, dx, fs, ex, ea, l, q⟩ => ?_) ht
  subst ex
  obtain rfl : u = Value.ref a := rx
  refine getmeth_ok I1 ea c hm l ?_
  refine PySem.W.callWith_K (first := [.ref a]) (h₀ := X.base) I.ok.mod.kin hm.kp (thn (ha pos pins s1 σ H1 _ I1 q) fun us s2 ⟨vs, H2, I2, r, q2⟩ => ⟨I2.kIn, ?_⟩) hst hpl
  exact run_fn (us := .ref a :: us) (vs := .ref a :: vs) F hr hb hd hx I2 (.cons rfl r) q2
/-- o.m() -/
theorem pe_meth0 {pl : Sem Bool} (he : PE X o ta) (c : Cls X.K C) (hm : Meth X.K C m f) (F : FnOk X.prog X.w X.K X.mg X.base CX k f fd ps sp) (hr : Room k X.A) (hb : Binds X.K fd ps ds) (hd : Vals dvs ds) (hx : Passes CX X E)
    (ht : eval (.Call (.Attribute o m apos) [] [] pos) X.env = (do
      let ov ← eval o X.env
      standAt apos.atName
      let (f, first) ← holding [ov] (getMethod ov m pl)
      callWith pos f first (backTo pos (starEach [] X.env)) (backToKw pos (keywordEach [] X.env))) := by rfl) :
    PE X (.Call (.Attribute o m apos) [] [] pos) (tMeth C m sp dvs E ta tNil) := by
  intro pins s σ H Q I h
  refine PySem.W.methodCall_KW (pl := pl) (thn (he pins s σ H _ I h) fun u s1 ⟨x, H1, I1, rx, a, dx, fs, ex, ea, l, q⟩ => ?_) ht
  subst ex
  obtain rfl : u = Value.ref a := rx
  refine getmeth_ok I1 ea c hm l ?_
  exact PySem.W.callWith_K0 (first := [.ref a]) I1.kIn hm.kp (run_fn (us := [.ref a]) (vs := [.ref a]) F hr hb hd hx I1 (.cons rfl .nil) q)

/-- what a class must have to be made -/
structure Mk (K : PySem.W.Frag) (C f : Addr) : Prop where
  makes : PySem.W.makesIn K C = true
  init : PySem.W.findIn K (.ref C) "__init__" = some (some (.ref f))
  fn : PySem.W.isFn K (.ref f) = true
  kp : PySem.W.keepIn K (.ref C) = true

theorem run_make {pins : List (Addr × Obj)} {σ : St} {H : Hp} {s : Shared} {Q : VK} {us : List Value} {vs : List V} (M : Mk X.K C f) (F : FnOk X.prog X.w X.K X.mg X.base CX k f fd ps sp) (hr : Room (k + 1) X.A) (hb : Binds X.K fd ps ds) (hd : Vals dvs ds)
    (hx : Passes CX X E) (I : Inv X pins σ H s) (r : Vals vs us)
    (h : ∀ x dx, H x = none → H dx = none → dx ≠ x → sp (.ref x :: (vs ++ dvs)) (upd (upd H dx (.own x)) x (.ins C dx [])) (fun v H2 => v = .non ∧ Q (.ref x) H2) E) :
    wpAny (model X.prog X.w) X.A (call (.ref C) us) (EP X pins σ Q) X.xe s := by
  have hq := h (s.heap.objs.size + 1) s.heap.objs.size (I.hok.fresh (Nat.le_succ _)) (I.hok.fresh (Nat.le_refl _)) (Nat.ne_of_lt (Nat.lt_succ_self _))
  have I2 := Inv.made (C := C) I
  have r2 : Vals (V.ref (s.heap.objs.size + 1) :: (vs ++ dvs)) (Value.ref (s.heap.objs.size + 1) :: (us ++ ds)) := .cons rfl (r.append hd)
  have hl : (Value.ref (s.heap.objs.size + 1) :: us ++ ds).length = ps.length := by
    have e := r2.length
    rw [F.len _ _ _ _ hq] at e
    exact e.symm
  refine wpAny_call (make_map (f := f) I.kIn M.makes M.init (beq_iff_eq.mp M.fn) (codeAny_mono (F.run _ X.stack _ _ ⟨Value.ref (s.heap.objs.size + 1) :: us, []⟩ (Value.ref (s.heap.objs.size + 1) :: (us ++ ds)) _ _ E (hr.make C us [])
    (I2.env0.make C us []) (hb _ (Value.ref (s.heap.objs.size + 1) :: us) I2.kIn hl) r2 hq) fun r s' hq' => ?_))
  cases r with
  | error e => exact hx pins σ _ _ e s' I2 hq'
  | ok fl =>
    cases fl with
    | ret u =>
      obtain ⟨v, H', I3, rv, ev, q3⟩ := I2.after hq'
      subst ev
      exact ⟨rv, ⟨V.ref (s.heap.objs.size + 1), H', I3, rfl, q3⟩⟩
    | next => exact False.elim hq'
    | brk => exact False.elim hq'
    | cont => exact False.elim hq'
theorem pe_make (M : Mk X.K C f) (F : FnOk X.prog X.w X.K X.mg X.base CX k f fd ps sp) (hr : Room (k + 1) X.A) (hg : Gl X x) (hm : X.mg x = some (.ref C)) (hb : Binds X.K fd ps ds) (hd : Vals dvs ds) (hx : Passes CX X E)
    (ha : PA X (e :: es) t) (hdb : (x == ("__debug__" : Str)) = false := by decide) (he : starEach (e :: es) X.env = (false, eval e X.env) :: starEach es X.env := by rfl) (hpl : (backTo pos (starEach es X.env)).any (·.1) = false := by rfl) :
    PE X (.Call (.Name x p) (e :: es) [] pos) (tMake C sp dvs E t) := by
  intro pins s σ H Q I h
  refine wpAny_Call_Name_kw (ld_glob I hg hm ?_ hdb)
  refine PySem.W.callWith_K (h₀ := X.base) I.ok.mod.kin M.kp (thn (ha pos pins s σ H _ I h) fun us s1 ⟨vs, H1, I1, r, q⟩ => ⟨I1.kIn, ?_⟩) he hpl
  exact run_make M F hr hb hd hx I1 r q
end

/-! ### keywords -/
section
variable {X : Cx} {CX : CXT} {k : Nat} {f C : Addr} {fd : FuncData} {ps ks : List Str} {sp : Sp} {E : XK} {x m : Str} {p pos apos kpos : Pos} {e o : Expr} {es : List Expr} {kws : List Keyword} {te ta : TE} {t tk : TA} {nm : Option Str}

/-- how a call with keywords binds: g puts the positional values us and the keywords' values ws (names ks) in the parameters' order, defaults among them -/
structure KBinds (K : PySem.W.Frag) (fd : FuncData) (ps ks : List Str) (g : List Value → List Value → List Value) (gV : List V → List V → List V) : Prop where
  to : ∀ (s : Shared) (us ws : List Value), K.In s.heap → (g us ws).length = ps.length → BindsTo s fd ⟨us, ks.zip ws⟩ (ps.zip (g us ws))
  rel : ∀ {vs : List V} {us : List Value} {zs : List V} {ws : List Value}, Vals vs us → Vals zs ws → Vals (gV vs zs) (g us ws)
variable {g : List Value → List Value → List Value} {gV : List V → List V → List V}
end

/-! ### a def's body keeps its promise -/
/-- names: the parameters first -/
structure FnScope (N P : List Str) (sc : Scope) : Prop where
  kind : sc.kind = .function
  co : sc.isCoroutine = false
  gen : sc.isGenerator = false
  nd : N.Nodup
  pre : N.take P.length = P
  par : ∀ x ∈ P, sc.names.lookup x = some .local ∨ sc.names.lookup x = some .cell
  nofree : ∀ y ∈ sc.names, y.2 ≠ .free

theorem bindL_out {kindOf : Str → Option NameKind} {x : Str} : ∀ {binds : List (Str × Value)} {m : Str → Option Value}, (∀ v, (x, v) ∉ binds) → bindL kindOf binds m x = m x
  | [], _, _ => rfl
  | (n, v) :: r, m, h => by
    unfold bindL
    rw [bindL_out fun w hw => h w (List.mem_cons_of_mem _ hw)]
    split
    · have : x ≠ n := by rintro rfl; exact h v List.mem_cons_self
      simp [this]
    · rfl
theorem bindC_out {kindOf : Str → Option NameKind} {x : Str} : ∀ {binds : List (Str × Value)} {m : Str → Option Value}, (∀ v, (x, v) ∉ binds) → bindC kindOf binds m x = m x
  | [], _, _ => rfl
  | (n, v) :: r, m, h => by
    unfold bindC
    rw [bindC_out fun w hw => h w (List.mem_cons_of_mem _ hw)]
    split
    · rfl
    · have : x ≠ n := by rintro rfl; exact h v List.mem_cons_self
      simp [this]
theorem bindL_get {kindOf : Str → Option NameKind} {x : Str} {v : Value} : ∀ {P : List Str} {vs : List Value} {i : Nat} {m : Str → Option Value}, P.Nodup → P[i]? = some x → vs[i]? = some v → kindOf x = some .local →
    bindL kindOf (P.zip vs) m x = some v
  | [], _, _, _, _, h, _, _ => by simp at h
  | _ :: _, [], _, _, _, _, h, _ => by simp at h
  | p :: P, w :: vs, 0, m, nd, h1, h2, hk => by
    simp at h1 h2; subst h1; subst h2
    show bindL kindOf ((p, w) :: P.zip vs) m p = _
    unfold bindL
    rw [bindL_out fun v hv => (List.nodup_cons.mp nd).1 (List.of_mem_zip hv).1, if_pos hk]
    simp
  | p :: P, w :: vs, i + 1, m, nd, h1, h2, hk => by
    show bindL kindOf ((p, w) :: P.zip vs) m x = _
    unfold bindL
    exact bindL_get (i := i) (List.nodup_cons.mp nd).2 (by simpa using h1) (by simpa using h2) hk
theorem bindC_get {kindOf : Str → Option NameKind} {x : Str} {v : Value} : ∀ {P : List Str} {vs : List Value} {i : Nat} {m : Str → Option Value}, P.Nodup → P[i]? = some x → vs[i]? = some v → kindOf x ≠ some .local →
    bindC kindOf (P.zip vs) m x = some v
  | [], _, _, _, _, h, _, _ => by simp at h
  | _ :: _, [], _, _, _, _, h, _ => by simp at h
  | p :: P, w :: vs, 0, m, nd, h1, h2, hk => by
    simp at h1 h2; subst h1; subst h2
    show bindC kindOf ((p, w) :: P.zip vs) m p = _
    unfold bindC
    rw [bindC_out fun v hv => (List.nodup_cons.mp nd).1 (List.of_mem_zip hv).1, if_neg hk]
    simp
  | p :: P, w :: vs, i + 1, m, nd, h1, h2, hk => by
    show bindC kindOf ((p, w) :: P.zip vs) m x = _
    unfold bindC
    exact bindC_get (i := i) (List.nodup_cons.mp nd).2 (by simpa using h1) (by simpa using h2) hk

/-- the names' values at the entry -/
def start (N : List Str) (vs : List V) : St := vs.map some ++ List.replicate (N.length - vs.length) none

/-- the context of a def's body, at its entry; an exception leaves the frame, then lies as CX says -/
def cxOf (CX : CXT) (P : Program) (w : World) (K : PySem.W.Frag) (mg : Str → Option Value) (base : Heap) (N : List Str) (qual : Str) (scope : Scope) (f : Addr) (cd : Value) (A : Around) (outer : List Env) (s : Shared) (H : Hp) (E : XK) : Cx where
  prog := P
  w := w
  K := K
  mg := mg
  base := base
  A := A.deeper (envOfC qual scope s.heap.objs.size f cd)
  N := N
  s₀ := s
  H₀ := H
  env := envOfC qual scope s.heap.objs.size f cd
  outer := outer
  stack := envOfC qual scope s.heap.objs.size f cd :: outer
  ex := []
  calm := true
  fn := fun _ => true
  pn := []
  xe := fun e s' => wpAny (model P w) (A.deeper (envOfC qual scope s.heap.objs.size f cd)) (leaving (envOfC qual scope s.heap.objs.size f cd) e) (fun _ s'' => CX outer H s E e s'') (fun e' s'' => CX outer H s E e' s'') s'

theorem cell_has {sc : Scope} {n : Nat} {x : Str} (h : sc.names.lookup x = some .cell) : ∃ c, (cellsFrom n sc.names []).lookup x = some c := by
  have q := PySem.W.cellsFrom_some sc.names n [] (.inl h)
  exact Option.isSome_iff_exists.mp q

theorem inv_start {CX : CXT} {P : Program} {w : World} {K : PySem.W.Frag} {mg : Str → Option Value} {base : Heap} {N ps : List Str} {qual : Str} {scope : Scope} {f : Addr} {cd : Value} {A : Around} {outer : List Env} {s s1 : Shared} {H : Hp} {E : XK} {us : List Value} {vs : List V}
    (S : FnScope N ps scope) (hd : A.handled = none) (e0 : Env0 P w K mg base A outer s H) (hl : vs.length = ps.length) (r : Vals vs us)
    (x : InCallC s s.heap.objs.size (bindL (envOfC qual scope s.heap.objs.size f cd).kindOf (ps.zip us) fun _ => none) (cellsFrom (s.heap.objs.size + 1) scope.names []) (bindC (envOfC qual scope s.heap.objs.size f cd).kindOf (ps.zip us) fun _ => none) s1) :
    Inv (cxOf CX P w K mg base N qual scope f cd A outer s H E) [] (start N vs) H s1 := by
  have hpl : ps.length ≤ N.length := by have := congrArg List.length S.pre; rw [List.length_take] at this; omega
  obtain ⟨h1, tk, rfl, hk⟩ := x.done
  have noA : ∀ b : Addr, b ∉ (cxOf CX P w K mg base N qual scope f cd A outer s H E).ex := fun b z => absurd (show b ∈ ([] : List Addr) from z) (by simp)
  refine ⟨⟨e0.mod, S.kind, rfl, rfl, Nat.le_refl _, fun y z c h1 h2 => ?_, fun y hy => ?_, fun y c _ h => ?_, fun _ => hd, Around.frames_deeper e0.frames, .inr ⟨rfl, rfl⟩, fun b z => absurd z (noA b), e0.bs, e0.bsz, fun b _ _ => noA b, fun b z => absurd z (noA b), e0.funs, e0.frf⟩,
    rfl, e0.bare, Un.kept hk, ⟨_, x.toInCall.ns, fun i y v h1 h2 h3 => ?_⟩, fun y c h => ⟨_, x.cell y c h⟩, e0.hok.fresh (Nat.le_refl _), fun y c h => ?_, fun p hp => absurd (show p ∈ ([] : List (Addr × Obj)) from hp) (by simp), e0.hok.kept hk, ?_⟩
  · exact name_of_addr x.apart (PySem.mem_of_lookup h1) (PySem.mem_of_lookup h2)
  · have hy : scope.names.lookup y = some .cell ∨ scope.names.lookup y = some .free := hy
    rcases hy with hy | hy
    · exact cell_has hy
    · exact absurd rfl (S.nofree _ (PySem.mem_of_lookup hy))
  · exact Nat.le_of_lt (x.above y c (PySem.mem_of_lookup h))
  · have hi : i < vs.length := by
      unfold start at h2
      by_cases hi : i < vs.length
      · exact hi
      · rw [List.getElem?_append_right (by simpa using hi)] at h2
        rw [List.getElem?_replicate] at h2
        split at h2 <;> cases h2
    have ha : vs[i]? = some v := by
      unfold start at h2
      rw [List.getElem?_append_left (by simpa using hi), List.getElem?_map] at h2
      cases e : vs[i]? with
      | none => rw [e] at h2; cases h2
      | some a => rw [e] at h2; cases h2; rfl
    obtain ⟨u, hu, rv⟩ := r.get ha
    have hp : ps[i]? = some y := by
      rw [← S.pre, List.getElem?_take_of_lt (by omega)]; exact h1
    have ndP : ps.Nodup := by rw [← S.pre]; exact S.nd.sublist (List.take_sublist _ _)
    refine ⟨u, rv, ?_⟩
    rcases S.par y (List.mem_of_getElem? hp) with k | k
    · exact .inl ⟨k, bindL_get ndP hp hu k⟩
    · obtain ⟨c, e⟩ := cell_has (n := s.heap.objs.size + 1) k
      refine .inr ⟨.inl k, c, e, ?_⟩
      have q := x.cell y c e
      rw [bindC_get ndP hp hu (by show scope.names.lookup y ≠ _; rw [k]; decide)] at q
      exact q
  · exact e0.hok.fresh (Nat.le_of_lt (x.above y c (PySem.mem_of_lookup h)))
  · unfold start
    show _ = N.length
    rw [List.length_append, List.length_map, List.length_replicate]
    omega

/-- THE RULE: a def (or a method) of the text, by its body. The body's reading t is chosen for each entry; it is run at the parameters' values -/
theorem fn_of {CX : CXT} {P : Program} {w : World} {K : PySem.W.Frag} {mg : Str → Option Value} {base : Heap} {k : Nat} {f : Addr} {name qual : Str} {params : Arguments} {body : List Stmt} {scope : Scope} {dV kV doc pm cdv ct oc : Value} {an od : Option Addr}
    {osl : Array (Option Value)} {N ps : List Str} {sp : Sp} (lk : K.lookup f = some ⟨oc, od, .func (PySem.W.fnOf name qual params body scope dV kV doc pm an cdv ct), osl⟩) (hcd : PySem.W.codeIn K cdv qual = true) (S : FnScope N ps scope)
    (len : ∀ vs H Q E, sp vs H Q E → vs.length = ps.length)
    (hbody : ∀ (A : Around) (outer : List Env) (s : Shared) (H : Hp) (vs : List V) (Q : VK) (E : XK), Room k (A.deeper (envOfC qual scope s.heap.objs.size f cdv)) → sp vs H Q E →
      ∃ t, PSs (cxOf CX P w K mg base N qual scope f cdv A outer s H E) body t ∧ t { nx := fun _ H' => Q .non H', rt := Q } (start N vs) H) :
    FnOk P w K mg base CX (k + 1) f (PySem.W.fnOf name qual params body scope dV kV doc pm an cdv ct) ps sp := by
  refine ⟨len, fun A outer s H args us vs Q E hr e0 hb r hsp => ?_⟩
  have hl := len _ _ _ _ hsp
  have KX : K.In s.heap := e0.mod.kin.keeps fun b o e => (e0.bs b o e).1
  have lim : s.heap.NoLimit := e0.mod.nolimit.keeps fun b o e => (e0.bs b o e).1
  have hkind : ∀ y ∈ ps.zip us, scope.names.lookup y.1 = some .local ∨ (scope.names.lookup y.1 = some .cell ∧ ((cellsFrom (s.heap.objs.size + 1) scope.names []).lookup y.1).isSome = true) := fun ⟨n, v⟩ hy => by
    rcases S.par n (List.of_mem_zip hy).1 with q | q
    · exact .inl q
    · exact .inr ⟨q, PySem.W.cellsFrom_some _ _ _ (.inl q)⟩
  refine codeAny_call_function hr.depth (KX _ _ lk) rfl S.co S.gen rfl (PySem.W.codeRec_of KX hcd) (hb _ _ _ _ ?_)
  refine wpAny_newFunctionEnv_cells S.kind hkind fun env he s1 x => ?_
  subst he
  refine ⟨lim.keeps x.toInCall.keep, codeAny_func ?_⟩
  obtain ⟨t, ht, hq⟩ := hbody A outer s H vs Q E (hr.deeper _) hsp
  have I : Inv (cxOf CX P w K mg base N qual scope f cdv A outer s H E) [] (start N vs) H s1 := inv_start S hr.hd e0 hl r x
  refine wpAny_mono (ht [] s1 (start N vs) H _ I hq) (fun fl s' hs => ?_) fun e s' hs => hs
  have fin : ∀ {σ' : St} {H' : Hp} {v : V} {u : Value}, Inv (cxOf CX P w K mg base N qual scope f cdv A outer s H E) [] σ' H' s' → RelV v u → Q v H' → CE outer P w H s Q u s' :=
    fun {σ' H' v u} J rv q => ⟨v, H', J.os, J.bare, J.base, J.hok, rv, q⟩
  cases fl with
  | ret u =>
    obtain ⟨v, σ', H', J, rv, q⟩ := hs
    exact fin J rv q
  | next =>
    obtain ⟨σ', H', J, q⟩ := hs
    exact fin (v := V.non) (u := Value.none) J rfl q
  | brk =>
    obtain ⟨_, _, _, q⟩ := hs
    exact False.elim q
  | cont =>
    obtain ⟨_, _, _, q⟩ := hs
    exact False.elim q
end L2

namespace L2
open PySem PySem.Spec PyProof.Rows
section
variable {X : Cx} {x : Str} {p pos : Pos} {e : Expr} {es : List Expr} {t : TA} {id T : String} {r : List V → Hp → VK → Prop}

def tCB (r : List V → Hp → VK → Prop) (t : TA) : TE := fun σ H Q => t σ H fun vs H1 => r vs H1 Q
/-- f(e, ..), f a built-in function -/
theorem pe_callB (hc : CallR X (.builtin id) r) (hg : Gl X x) (hm : X.mg x = none) (hv : bootBuiltins x = some (.builtin id)) (ha : PA X (e :: es) t) (hn : x ≠ "__name__" := by decide) (hdb : (x == ("__debug__" : Str)) = false := by decide)
    (he : starEach (e :: es) X.env = (false, eval e X.env) :: starEach es X.env := by rfl) (hpl : (backTo pos (starEach es X.env)).any (·.1) = false := by rfl) : PE X (.Call (.Name x p) (e :: es) [] pos) (tCB r t) := by
  intro pins s σ H Q I h
  refine wpAny_Call_Name_kw (ld_blt I hg hm hv ?_ hn hdb)
  exact PyProof.Rows.callWith_builtin1 (thn (ha pos pins s σ H _ I h) fun us s1 ⟨vs, H1, I1, r1, q1⟩ => hc pins s1 σ H1 vs us Q I1 r1 q1) he hpl
/-- T(e, ..), T a built-in type -/
theorem pe_callTy (hc : CallR X (.type T) r) (hg : Gl X x) (hm : X.mg x = none) (hv : bootBuiltins x = some (.type T)) (ha : PA X (e :: es) t) (hn : x ≠ "__name__" := by decide) (hdb : (x == ("__debug__" : Str)) = false := by decide)
    (he : starEach (e :: es) X.env = (false, eval e X.env) :: starEach es X.env := by rfl) (hpl : (backTo pos (starEach es X.env)).any (·.1) = false := by rfl) : PE X (.Call (.Name x p) (e :: es) [] pos) (tCB r t) := by
  intro pins s σ H Q I h
  refine wpAny_Call_Name_kw (ld_blt I hg hm hv ?_ hn hdb)
  exact PyProof.Rows.callWith_type1 (thn (ha pos pins s σ H _ I h) fun us s1 ⟨vs, H1, I1, r1, q1⟩ => hc pins s1 σ H1 vs us Q I1 r1 q1) he hpl
end
end L2

namespace HT
open PySem PyProof.Rows



section
open PySem.SeqAt
open PySem.AutoSeq1 (wpAny_loadPart')
open PySem.MeetsSeq PySem.MeetsSeq2 PySem.MeetsSeq3

end

section
variable {prog : Program} {w : World} {A : Around} {E : Value → Shared → Prop} {s : Shared}



/-! ### t[a:b], not the whole -/
/-- a slice's bound as a place among n (d where it is left out) -/
def sIx (n d : Nat) : Option Int → Nat
  | none => d
  | some v => if v < 0 then (v + (n : Int)).toNat else min v.toNat n
theorem sIx_nat (n d k : Nat) : sIx n d (some (k : Int)) = min k n := by
  show (if (k : Int) < 0 then ((k : Int) + (n : Int)).toNat else min (k : Int).toNat n) = min k n
  rw [if_neg (by omega), Int.toNat_natCast]
theorem sIx_le (n d : Nat) (hd : d ≤ n) (o : Option Int) : sIx n d o ≤ n := by
  cases o with
  | none => exact hd
  | some v =>
    show (if v < 0 then (v + (n : Int)).toNat else min v.toNat n) ≤ n
    by_cases hv : v < 0
    · rw [if_pos hv]; omega
    · rw [if_neg hv]; exact Nat.min_le_right _ _
theorem clip_eq (v : Int) (n d : Nat) : (if v < 0 then max (v + (n : Int)) 0 else min v (n : Int)) = ((sIx n d (some v) : Nat) : Int) := by
  show (if v < 0 then max (v + (n : Int)) 0 else min v (n : Int)) = (((if v < 0 then (v + (n : Int)).toNat else min v.toNat n) : Nat) : Int)
  by_cases hv : v < 0
  · simp only [if_pos hv]; omega
  · simp only [if_neg hv]; omega
theorem adjust_gen (lo hi : Option Int) (n : Nat) : Builtin.Slice.sliceAdjust lo hi 1 (n : Int) = (((sIx n 0 lo : Nat) : Int), ((sIx n n hi : Nat) : Int)) := by
  have h1 : ¬ ((1 : Int) < 0) := by omega
  unfold Builtin.Slice.sliceAdjust
  simp only [h1, if_false]
  refine Prod.ext ?_ ?_
  · cases lo with
    | none => rfl
    | some v => exact clip_eq v n 0
  · cases hi with
    | none => rfl
    | some v => exact clip_eq v n n
theorem places_gen (i j : Nat) : Builtin.Slice.slicePlaces (i : Int) (j : Int) 1 = j - i := by
  unfold Builtin.Slice.slicePlaces
  have h1 : (1 : Int) > 0 := by omega
  simp only [h1, if_true, Int.ediv_one]
  split <;> omega
theorem slicePart_ {v : Value} {o : Option Int} {Q : Option Int → Shared → Prop} (p : IsPart v o) (h : Q o s) : wpAny (model prog w) A (Builtin.Slice.slicePartIndex v) Q E s := by
  cases p with
  | none => exact slicePart_none h
  | int i t => exact slicePart_int h
theorem sliceApplied_gen {sl : Addr} {vl vu : Value} {lo hi : Option Int} {n : Nat} {Q : Int × Int × Nat → Shared → Prop} (hs : s.heap.IsSliceOf sl vl vu .none) (pl : IsPart vl lo) (pu : IsPart vu hi)
    (h : Q (((sIx n 0 lo : Nat) : Int), 1, sIx n n hi - sIx n 0 lo) s) : wpAny (model prog w) A (Builtin.Slice.sliceApplied (.ref sl) (pure (n : Int))) Q E s := by
  obtain ⟨os, hos, hcs, hds⟩ := id hs
  unfold Builtin.Slice.sliceApplied Builtin.Slice.sliceFields
  refine wpAny_bind (wpAny_bind (wpAny_field hos hds (x := vl) rfl (wpAny_bind (wpAny_field hos hds (x := vu) rfl (wpAny_bind (wpAny_field hos hds (x := .none) rfl (wpAny_pure ?_)))))))
  refine wpAny_bind (slicePart_none ?_)
  show wpAny _ _ (if ((1 : Int) == 0) = true then _ else _) _ _ s
  rw [if_neg (by decide)]
  refine wpAny_bind (slicePart_ pl (wpAny_bind (slicePart_ pu (wpAny_bind (wpAny_pure ?_)))))
  show wpAny _ _ (match Builtin.Slice.sliceAdjust lo hi 1 (n : Int) with | (lo, hi) => pure (lo, (1 : Int), Builtin.Slice.slicePlaces lo hi 1)) _ _ s
  rw [adjust_gen lo hi n]
  show wpAny _ _ (pure (((sIx n 0 lo : Nat) : Int), (1 : Int), Builtin.Slice.slicePlaces ((sIx n 0 lo : Nat) : Int) ((sIx n n hi : Nat) : Int) 1)) _ _ s
  rw [places_gen]
  exact wpAny_pure h
theorem pick_gen (xs : Array Value) (i k : Nat) : ((List.range k).filterMap fun (m : Nat) => xs[((i : Int) + (m : Int) * 1).toNat]?).toArray = ((xs.toList.drop i).take k).toArray := by
  have e : (fun (m : Nat) => xs[((i : Int) + (m : Int) * 1).toNat]?) = fun m => xs[i + m]? := by
    funext m
    have : ((i : Int) + (m : Int) * 1).toNat = i + m := by omega
    rw [this]
  rw [e]
  have := pick_run xs i k
  rw [List.filterMap_map] at this
  have e2 : ((fun x => xs[x]?) ∘ fun x => i + x) = fun m => xs[i + m]? := rfl
  rw [e2] at this
  rw [this]

theorem getItem_tuple_cut {t sl : Addr} {items : Array Value} {vl vu : Value} {lo hi : Option Int} {Q : Value → Shared → Prop} (ht : IsTup s.heap t items) (hs : s.heap.IsSliceOf sl vl vu .none) (pl : IsPart vl lo) (pu : IsPart vu hi)
    (hw : ¬ (sIx items.size 0 lo = 0 ∧ sIx items.size items.size hi = items.size))
    (h : Q (.ref s.heap.objs.size) { s with heap := s.heap.push { cls := .type "tuple", data := .seq ((items.toList.drop (sIx items.size 0 lo)).take (sIx items.size items.size hi - sIx items.size 0 lo)).toArray } })
    (hsz : items.size ≤ sizeLine) : wpAny (model prog w) A (getItem (.ref t) (.ref sl)) Q E s := by
  have htake : sizeOk (.seq ((items.toList.drop (sIx items.size 0 lo)).take (sIx items.size items.size hi - sIx items.size 0 lo)).toArray) := by
    show ((items.toList.drop (sIx items.size 0 lo)).take (sIx items.size items.size hi - sIx items.size 0 lo)).toArray.size ≤ sizeLine
    rw [List.size_toArray, List.length_take, List.length_drop, Array.length_toList]
    omega
  have hj : sIx items.size items.size hi ≤ items.size := sIx_le _ _ (Nat.le_refl _) hi
  obtain ⟨os, hos, hcs, hds⟩ := id hs
  have hTs : s.TypeIs (.ref sl) "slice" := ⟨os, hos, hcs⟩
  unfold getItem
  try with_reducible refine wpAny_holding ?_
  first | refine wpAny_bind (wpAny_pure ?_) | skip
  refine wpAny_bind (wpAny_sequenceKey ht.typeIs (by decide) ?_)
  refine wpAny_bind (wpAny_callSpecial?_slot (name := Str.ofString "__getitem__") ht.typeIs PyProof.Rows.slot_tuple_getitem
    (wpAny_call_entry PyProof.Rows.slot_tuple_getitem ht.typeIs entry_tuple_getitem ?_ (args_tuple_getitem _ _)))
  show wpAny _ _ (Builtin.Tuple.tupleItemsOf (.ref t) >>= _) _ _ s
  refine wpAny_bind (tupleItemsOf_ ht ?_)
  refine wpAny_bind (wpAny_typeOf hTs ?_)
  rw [if_pos (by decide)]
  refine wpAny_bind (sliceApplied_gen hs pl pu ?_)
  have hno : ¬ ((((sIx items.size 0 lo : Nat) : Int) == 0 && (1 : Int) == 1 && (sIx items.size items.size hi - sIx items.size 0 lo) == items.size) = true) := by
    intro q
    rw [Bool.and_eq_true, Bool.and_eq_true] at q
    have q1 : ((sIx items.size 0 lo : Nat) : Int) = 0 := eq_of_beq q.1.1
    have q2 : sIx items.size items.size hi - sIx items.size 0 lo = items.size := eq_of_beq q.2
    exact hw ⟨by omega, by omega⟩
  show wpAny _ _ (if (((sIx items.size 0 lo : Nat) : Int) == 0 && (1 : Int) == 1 && (sIx items.size items.size hi - sIx items.size 0 lo) == items.size) = true then _ else _) _ _ s
  rw [if_neg hno, pick_gen]
  first
    | exact wpAny_bind (m := Builtin.Tuple.tupleExact _) (wpAny_newObj_type (wpAny_pure ⟨_, rfl, wpAny_pure h⟩) htake)
    | exact wpAny_bind (m := Builtin.Tuple.tupleExact _) (wpAny_newObj_type (wpAny_bind (wpAny_pure (wpAny_pure ⟨_, rfl, wpAny_pure h⟩))) htake)
    | exact wpAny_bind (wpAny_bind (m := Builtin.Tuple.tupleExact _) (wpAny_newObj_type (wpAny_pure (wpAny_pure ⟨_, rfl, wpAny_pure h⟩)) htake))
    | exact wpAny_bind (wpAny_bind (m := Builtin.Tuple.tupleExact _) (wpAny_newObj_type (wpAny_pure ⟨_, rfl, wpAny_pure h⟩) htake))
end
end HT

namespace L2
open PySem PySem.Spec PyProof.Rows

/-! ### the parts of a slice -/
abbrev TO := St → Hp → (Option Int → Hp → Prop) → Prop
/-- a slice's part (left out, or an int) -/
def PO (X : Cx) (e : Option Expr) (t : TO) : Prop :=
  ∀ (pins : List (Addr × Obj)) (s : Shared) (σ : St) (H : Hp) (Q : Option Int → Hp → Prop), Inv X pins σ H s → t σ H Q →
    wpAny (model X.prog X.w) X.A (evalPart e X.env) (fun u s' => ∃ o H', Inv X pins σ H' s' ∧ IsPart u o ∧ Q o H') X.xe s
def tNoPart : TO := fun _ H Q => Q none H
def tPart (t : TE) : TO := fun σ H Q => t σ H fun x H1 => ∃ i, x = .int i ∧ Q (some i) H1


section
variable {X : Cx} {e : Expr} {te : TE} {lo hi : Option Expr} {tl th : TO} {pos p2 : Pos}

theorem po_none : PO X none tNoPart := by
  intro pins s σ H Q I h
  rw [evalPart_none]
  exact wpAny_pure ⟨none, H, I, .none, h⟩
theorem po_some (h : PE X e te) : PO X (some e) (tPart te) := by
  intro pins s σ H Q I hw
  rw [evalPart_some]
  refine thn (h pins s σ H _ I hw) fun u s1 ⟨x, H1, I1, r1, q1⟩ => ?_
  obtain ⟨i, rfl, q⟩ := q1
  obtain ⟨t, rfl⟩ := r1
  exact ⟨some i, H1, I1, .int i t, q⟩

/-- what a slice of a value is, by values: the slice object stands at sl -/
def SlR (X : Cx) (r : V → Option Int → Option Int → Hp → VK → Prop) : Prop :=
  ∀ (pins : List (Addr × Obj)) (s : Shared) (σ : St) (H : Hp) (x : V) (v vl vu : Value) (lo hi : Option Int) (sl : Addr) (Q : VK), Inv X pins σ H s → RelV x v → s.heap.IsSliceOf sl vl vu .none → IsPart vl lo → IsPart vu hi → r x lo hi H Q →
    ∃ T id, typeLookup (.type T) "__getitem__" = pure (some (.builtin id)) ∧ s.TypeIs v T ∧ wpAny (model X.prog X.w) X.A (getItem v (.ref sl)) (EP X pins σ Q) X.xe s
theorem SlR.or {r r' : V → Option Int → Option Int → Hp → VK → Prop} (h : SlR X r) (h' : SlR X r') : SlR X (fun x lo hi H Q => r x lo hi H Q ∨ r' x lo hi H Q) := by
  intro pins s σ H x v vl vu lo hi sl Q I rx hs pl pu q
  rcases q with q | q
  · exact h pins s σ H x v vl vu lo hi sl Q I rx hs pl pu q
  · exact h' pins s σ H x v vl vu lo hi sl Q I rx hs pl pu q
def tSl (r : V → Option Int → Option Int → Hp → VK → Prop) (te : TE) (tl th : TO) : TE := fun σ H Q => te σ H fun x H1 => tl σ H1 fun l H2 => th σ H2 fun u H3 => r x l u H3 Q
/-- a[lo:hi], any a -/
theorem pe_slice {r : V → Option Int → Option Int → Hp → VK → Prop} (hr : SlR X r) (he : PE X e te) (hl : PO X lo tl) (hu : PO X hi th) : PE X (.Subscript e (.Slice lo hi none p2) pos) (tSl r te tl th) := by
  intro pins s σ H Q I h
  refine Subscript_ (thn (he pins s σ H _ I h) fun v s1 ⟨x, H1, I1, r1, q1⟩ => ?_)
  refine wpAny_Slice (thn (hl pins s1 σ H1 _ I1 q1) fun vl s2 ⟨l, H2, I2, pl, q2⟩ => thn (hu pins s2 σ H2 _ I2 q2) fun vu s3 ⟨u, H3, I3, pu, q3⟩ => ?_)
  rw [evalPart_none]
  refine wpAny_pure ?_
  have I4 : Inv X pins σ H3 { s3 with heap := s3.heap.push { cls := .type "slice", data := .fields #[vl, vu, .none] } } := I3.kept (t' := s3.toks) fun b ob q => Heap.get?_push_of_some _ q
  obtain ⟨T, id, hT, ht, hg⟩ := hr pins { s3 with heap := s3.heap.push { cls := .type "slice", data := .fields #[vl, vu, .none] } } σ H3 x v vl vu l u s3.heap.objs.size Q I4 r1 (Heap.IsSliceOf.new ..) pl pu q3
  show wpAny (model X.prog X.w) X.A (subscriptTail e (.Slice lo hi none p2) v (.ref s3.heap.objs.size)) (EP X pins σ Q) X.xe { s3 with heap := s3.heap.push { cls := .type "slice", data := .fields #[vl, vu, .none] } }
  exact tail_any (ops := [.ref s3.heap.objs.size, v]) ht hT hg (by with_unfolding_all rfl)

/-- the items of xs[lo:hi] -/
def cutV (xs : List V) (lo hi : Option Int) : List V := (xs.drop (HT.sIx xs.length 0 lo)).take (HT.sIx xs.length xs.length hi - HT.sIx xs.length 0 lo)
theorem cutV_length (xs : List V) (lo hi : Option Int) : (cutV xs lo hi).length ≤ xs.length := by
  unfold cutV
  rw [List.length_take, List.length_drop]
  omega

/-! ### t < u, t + u -/
end
end L2

namespace L2
open PySem PySem.Spec PyProof.Rows

/-! ### places -/
/-- the place that an index of any sign means -/
def ixN (n : Nat) (i : Int) : Option Nat := if 0 ≤ i then (if i < n then some i.toNat else none) else if -(n : Int) ≤ i then some (i + n).toNat else none
def atI {α : Type} (xs : List α) (i : Int) : Option α := (ixN xs.length i).bind fun j => xs[j]?
theorem ixN_seq {n : Nat} {i : Int} {j : Nat} (h : ixN n i = some j) : seqIndex? i n = some j ∧ j < n ∧ -(n : Int) ≤ i ∧ i < n := by
  unfold ixN at h
  by_cases h0 : 0 ≤ i
  · rw [if_pos h0] at h
    by_cases h1 : i < n
    · rw [if_pos h1] at h
      have e : i.toNat = j := Option.some.inj h
      exact ⟨by rw [seqIndex_of h0 h1, e], by omega, by omega, h1⟩
    · rw [if_neg h1] at h; cases h
  · rw [if_neg h0] at h
    by_cases h1 : -(n : Int) ≤ i
    · rw [if_pos h1] at h
      have e : (i + n).toNat = j := Option.some.inj h
      exact ⟨by rw [seqIndex_neg (by omega) h1, e], by omega, h1, by omega⟩
    · rw [if_neg h1] at h; cases h
theorem atI_get {α : Type} {xs : List α} {i : Int} {v : α} (h : atI xs i = some v) : ∃ j, seqIndex? i xs.length = some j ∧ xs[j]? = some v ∧ j < xs.length ∧ -(xs.length : Int) ≤ i ∧ i < xs.length := by
  unfold atI at h
  cases e : ixN xs.length i with
  | none => rw [e] at h; cases h
  | some j =>
    rw [e] at h
    obtain ⟨h1, h2, h3, h4⟩ := ixN_seq e
    exact ⟨j, h1, h, h2, h3, h4⟩
theorem atI_nat {α : Type} {xs : List α} {j : Nat} {v : α} (h : xs[j]? = some v) : atI xs (j : Int) = some v := by
  have hj : j < xs.length := (List.getElem?_eq_some_iff.mp h).1
  have e : ixN xs.length (j : Int) = some j := by
    unfold ixN
    rw [if_pos (by omega), if_pos (by omega)]; simp
  unfold atI; rw [e]; exact h

/-! ### what may be subscripted -/
/-- what stands as an index of a plain subscript -/
def PlainIx (b : Expr) : Prop := ∀ o i, subscripted b false o i = operate [o, i] (getItem o i)
/-- a subscript by values -/
def IxR (X : Cx) (r : R2) : Prop :=
  ∀ (value slice : Expr) (pins : List (Addr × Obj)) (s : Shared) (σ : St) (H : Hp) (x y : V) (v u : Value) (Q : VK), Inv X pins σ H s → RelV x v → RelV y u → r x y H Q →
    subscripted slice false v u = operate [v, u] (getItem v u) → wpAny (model X.prog X.w) X.A (subscriptTail value slice v u) (EP X pins σ Q) X.xe s
/-- a call of a builtin's method by values: the receiver, the arguments -/
def MtR (X : Cx) (id : String) (r : V → List V → Hp → VK → Prop) : Prop :=
  ∀ (pins : List (Addr × Obj)) (s : Shared) (σ : St) (H : Hp) (x : V) (xs : List V) (v : Value) (us : List Value) (Q : VK), Inv X pins σ H s → RelV x v → Vals xs us → r x xs H Q →
    wpAny (model X.prog X.w) X.A (call (.builtin id) (v :: us)) (EP X pins σ Q) X.xe s
section
variable {X : Cx} {a b : Expr} {ta tb : TE} {pos : Pos}
theorem IxR.or {r r' : R2} (h : IxR X r) (h' : IxR X r') : IxR X (fun x y H Q => r x y H Q ∨ r' x y H Q) := by
  intro value slice pins s σ H x y v u Q I rx ry q hs
  rcases q with q | q
  · exact h value slice pins s σ H x y v u Q I rx ry q hs
  · exact h' value slice pins s σ H x y v u Q I rx ry q hs
theorem MtR.or {id : String} {r r' : V → List V → Hp → VK → Prop} (h : MtR X id r) (h' : MtR X id r') : MtR X id (fun x xs H Q => r x xs H Q ∨ r' x xs H Q) := by
  intro pins s σ H x xs v us Q I rx rs q
  rcases q with q | q
  · exact h pins s σ H x xs v us Q I rx rs q
  · exact h' pins s σ H x xs v us Q I rx rs q
/-- a[b] -/
theorem pe_ix {r : R2} (hr : IxR X r) (ha : PE X a ta) (hb : PE X b tb) (hs : PlainIx b) : PE X (.Subscript a b pos) (tOp r ta tb) := by
  intro pins s σ H Q I h
  exact Subscript_ (binT ha hb I h fun v u s2 x y H2 I2 rx ry q => hr a b pins s2 σ H2 x y v u Q I2 rx ry q (hs _ _))

def rIxL (K : PySem.W.Frag) : R2 := fun x y H Q => ∃ p xs i v, x = .ref p ∧ y = .int i ∧ SqL K H p xs ∧ atI xs i = some v ∧ Q v H
def rIxT (K : PySem.W.Frag) : R2 := fun x y H Q => ∃ p xs i v, x = .ref p ∧ y = .int i ∧ SqT K H p xs ∧ atI xs i = some v ∧ Q v H
def rIxS : R2 := fun x y H Q => ∃ z i c, x = .str z ∧ y = .int i ∧ z.length ≤ sizeLine ∧ atI z.cps.toList i = some c ∧ Q (.str ⟨#[c]⟩) H
theorem ix_list : IxR X (rIxL X.K) := by
  intro value slice pins s σ H x y v u Q I rx ry h hs
  obtain ⟨p, xs, i, z, rfl, rfl, hq, he, q⟩ := h
  cases rx
  obtain ⟨t, rfl⟩ := ry
  obtain ⟨its, r, pl, hz⟩ := I.list hq
  obtain ⟨j, h1, h2, h3, h4, h5⟩ := atI_get he
  obtain ⟨w, ew, rw'⟩ := r.get h2
  have hl := r.length
  have hn := line63
  have fin : EP X pins σ Q w s := ⟨z, H, I, rw', q⟩
  by_cases h0 : 0 ≤ i
  · have hj : i.toNat = j := by
      rw [seqIndex_of h0 h5] at h1
      exact Option.some.inj h1
    exact item_listR pl.isList h0 (by omega) (by rw [hj]; simpa using ew) fin hs
  · have hj : (i + (its.toArray.size : Int)).toNat = j := by
      rw [seqIndex_neg (by omega) h4] at h1
      rw [List.size_toArray, ← hl]
      exact Option.some.inj h1
    exact subscriptTail_builtinR (x := w) pl.isList.typeIs slot_list_getitem.lookup
      (wpAny_getItem_list_neg (Q := fun r s' => r = w ∧ EP X pins σ Q r s') pl.isList (by omega) (by rw [List.size_toArray] <;> omega) (by omega) (by rw [hj]; simpa using ew) ⟨rfl, fin⟩) hs
theorem ix_tup : IxR X (rIxT X.K) := by
  intro value slice pins s σ H x y v u Q I rx ry h hs
  obtain ⟨p, xs, i, z, rfl, rfl, hq, he, q⟩ := h
  cases rx
  obtain ⟨t, rfl⟩ := ry
  obtain ⟨its, r, pl, hz⟩ := I.tuple hq
  obtain ⟨j, h1, h2, h3, h4, h5⟩ := atI_get he
  obtain ⟨w, ew, rw'⟩ := r.get h2
  have hl := r.length
  have hn := line63
  have fin : EP X pins σ Q w s := ⟨z, H, I, rw', q⟩
  exact subscriptTail_builtinR (x := w) pl.typeIs slot_tuple_getitem.lookup
    (getItem_tuple (j := j) (Q := fun r s' => r = w ∧ EP X pins σ Q r s') pl (by omega) (by omega) (by rw [List.size_toArray, ← hl]; exact h1) (by simpa using ew) ⟨rfl, fin⟩) hs
theorem ix_str : IxR X rIxS := by
  intro value slice pins s σ H x y v u Q I rx ry h hs
  obtain ⟨z, i, c, rfl, rfl, hz, he, q⟩ := h
  obtain ⟨t, rfl⟩ := rx
  obtain ⟨t', rfl⟩ := ry
  obtain ⟨j, h1, h2, h3, h4, h5⟩ := atI_get he
  have hl : z.cps.toList.length = z.length := by simp [Str.length]
  rw [hl] at h1 h4 h5
  have hn := line63
  exact tail_any (typeIs_str s z t) slot_str_getitem.lookup (getItem_str (c := c) (by
    have e1 : decide (i < -(2 ^ 63 : Int)) = false := decide_eq_false (by omega)
    have e2 : decide (i ≥ 2 ^ 63) = false := decide_eq_false (by omega)
    rw [e1, e2, Bool.or_false]) (by rw [h1]; simpa using h2) ⟨.str ⟨#[c]⟩, H, I.tok _, ⟨_, rfl⟩, q⟩) hs
/-- list, tuple or str -/
def rIx (K : PySem.W.Frag) : R2 := fun x y H Q => rIxL K x y H Q ∨ rIxT K x y H Q ∨ rIxS x y H Q
theorem ix_seq : IxR X (rIx X.K) := ix_list.or (ix_tup.or ix_str)

/-! ### xs[i] = v, any sign -/
/-- the list's object behind a store -/
theorem mapSeq_set (its : List Value) (n j : Nat) (u : Value) : Obj.mapSeq (·.setIfInBounds j u) { cls := .type "list", data := .seq its.toArray n } = { cls := .type "list", data := .seq (its.set j u).toArray n } := by
  simp [Obj.mapSeq]
theorem Inv.lst {pins : List (Addr × Obj)} {σ : St} {H : Hp} {s : Shared} {p : Addr} {xs : List V} (I : Inv X pins σ H s) (h : H p = some (.lst xs)) :
    ∃ (its : List Value) (n : Nat), Vals xs its ∧ s.heap.get? p = some { cls := .type "list", data := .seq its.toArray n } ∧ xs.length ≤ sizeLine := by
  obtain ⟨z, its, n, r, e⟩ := I.hok p _ h
  exact ⟨its, n, r, e, z⟩
/-- the list at p is written by an update of its object -/
theorem Inv.lstUpd {pins : List (Addr × Obj)} {σ : St} {H : Hp} {s : Shared} {p : Addr} {xs ys : List V} {its its' : List Value} {n n' : Nat} {f : Obj → Obj} (I : Inv X pins σ H s) (h : H p = some (.lst xs))
    (ho : s.heap.get? p = some { cls := .type "list", data := .seq its.toArray n }) (hf : f { cls := .type "list", data := .seq its.toArray n } = { cls := .type "list", data := .seq its'.toArray n' }) (r : Vals ys its') (hz : ys.length ≤ sizeLine) (t : Nat) :
    Inv X pins σ (upd H p (.lst ys)) { s with heap := s.heap.update p f, toks := t } := by
  have e : (s.heap.update p f).get? p = some { cls := .type "list", data := .seq its'.toArray n' } := by
    rw [Heap.get?_update_self f ho (by rw [hf] <;> rfl), hf]
  refine I.write (x := p) (e := p) (by rw [h]; trivial) (.inl rfl) (fun b u hb q => (Heap.get?_update_other _ _ (Ne.symm hb)).trans q) ⟨_, e⟩ ?_
  exact ⟨hz, its', n', r, e⟩
def rSetL : V → V → V → Hp → (Hp → Prop) → Prop := fun o i v H Q => ∃ p xs k j, o = .ref p ∧ i = .int k ∧ H p = some (.lst xs) ∧ ixN xs.length k = some j ∧ Q (upd H p (.lst (xs.set j v)))
theorem set_list : PSet X rSetL := by
  intro pins s σ H o i v ov iv u Q I ro ri rv h
  obtain ⟨p, xs, k, j, rfl, rfl, hp, hj, q⟩ := h
  cases ro
  obtain ⟨t, rfl⟩ := ri
  obtain ⟨its, n, r, ho, hz⟩ := I.lst hp
  obtain ⟨h1, h2, h3, h4⟩ := ixN_seq hj
  have hl := r.length
  have hn := line63
  have I' : Inv X pins σ (upd H p (.lst (xs.set j v))) { s with heap := s.heap.update p (Obj.mapSeq (·.setIfInBounds j u)) } :=
    I.lstUpd hp ho (mapSeq_set its n j u) (r.set rv j) (by rw [List.length_set]; exact hz) s.toks
  by_cases h0 : 0 ≤ k
  · have hk : k.toNat = j := by
      rw [seqIndex_of h0 h4] at h1
      exact Option.some.inj h1
    exact PySem.W.ki_setAt ho h0 (by omega) (by rw [List.size_toArray, ← hl]; exact h4) (by rw [hk]; exact ⟨_, I', q⟩)
  · have hk : (k + (its.toArray.size : Int)).toNat = j := by
      rw [seqIndex_neg (by omega) h3] at h1
      rw [List.size_toArray, ← hl]
      exact Option.some.inj h1
    exact PySem.W.ki_setBack ho (by omega) (by rw [List.size_toArray, ← hl]; exact h3) (by omega) (by rw [hk]; exact ⟨_, I', q⟩)

/-! ### slices -/
theorem slice_bounds (lo hi : Option Int) (n : Nat) : (sliceBounds lo hi none n).1 = ((HT.sIx n 0 lo : Nat) : Int) ∧ (sliceBounds lo hi none n).2.1 = ((HT.sIx n n hi : Nat) : Int) ∧ (sliceBounds lo hi none n).2.2 = 1 := by
  refine ⟨?_, ?_, rfl⟩
  · cases lo with
    | none => simp [sliceBounds, HT.sIx]
    | some i =>
      simp only [sliceBounds, HT.sIx, Option.getD_none, show (1 : Int) > 0 by decide, if_true]
      by_cases h : i < 0
      · simp only [h, if_true] <;> omega
      · simp only [h, if_false] <;> omega
  · cases hi with
    | none => simp [sliceBounds, HT.sIx]
    | some i =>
      simp only [sliceBounds, HT.sIx, Option.getD_none, show (1 : Int) > 0 by decide, if_true]
      by_cases h : i < 0
      · simp only [h, if_true] <;> omega
      · simp only [h, if_false] <;> omega
theorem slicePick_cut (its : List Value) (lo hi : Option Int) : slicePick its.toArray lo hi none = ((its.drop (HT.sIx its.length 0 lo)).take (HT.sIx its.length its.length hi - HT.sIx its.length 0 lo)).toArray := by
  obtain ⟨h1, h2, h3⟩ := slice_bounds lo hi its.toArray.size
  unfold slicePick
  rw [h1, h2, h3]
  simp only [sliceRange_one, pick_run, List.size_toArray] <;> rfl
/-- xs[lo:hi] of a list: a new list -/
def rSlL (K : PySem.W.Frag) : V → Option Int → Option Int → Hp → VK → Prop := fun x lo hi H Q => ∃ a xs, x = .ref a ∧ SqL K H a xs ∧ ∀ p, H p = none → Q (.ref p) (upd H p (.lst (cutV xs lo hi)))
theorem sl_list : SlR X (rSlL X.K) := by
  intro pins s σ H x v vl vu lo hi sl Q I rx hs pl pu h
  obtain ⟨a, xs, rfl, hx, q⟩ := h
  cases rx
  obtain ⟨its, r, ht, hz⟩ := I.list hx
  have hlen := r.length
  refine ⟨"list", _, slot_list_getitem.lookup, ht.isList.typeIs, ?_⟩
  refine wpAny_getItem_list_slice ht.isList hs pl pu .none (by simp) ?_ (by rw [List.size_toArray] <;> omega)
  rw [slicePick_cut, ← hlen]
  refine ⟨.ref s.heap.objs.size, _, I.laid (t' := s.toks) (o := .lst (cutV xs lo hi)) (fun b ob q => Heap.get?_push_of_some _ q) (Nat.le_refl _) ?_, rfl, q _ (I.hok.fresh (Nat.le_refl _))⟩
  exact ⟨Nat.le_trans (cutV_length xs lo hi) hz, _, 0, (r.drop (HT.sIx xs.length 0 lo)).take (HT.sIx xs.length xs.length hi - HT.sIx xs.length 0 lo), Heap.get?_push_size _ rfl⟩

/-! ### in, not in: flat items -/

/-! ### len, list(x), tuple(x) of any list or tuple that is read -/
theorem CallR.or {f : Value} {r r' : List V → Hp → VK → Prop} (h : CallR X f r) (h' : CallR X f r') : CallR X f (fun xs H Q => r xs H Q ∨ r' xs H Q) := by
  intro pins s σ H xs us Q I rs q
  rcases q with q | q
  · exact h pins s σ H xs us Q I rs q
  · exact h' pins s σ H xs us Q I rs q
theorem call_list_of : CallR X (.type "list") (fun xs H Q => ∃ p ys, xs = [.ref p] ∧ (SqL X.K H p ys ∨ SqT X.K H p ys) ∧ ∀ l, H l = none → Q (.ref l) (upd H l (.lst ys))) := by
  intro pins s σ H xs us Q I r h
  obtain ⟨p, ys, rfl, hq, q⟩ := h
  obtain ⟨u, rfl, rx⟩ := vals1 r
  cases rx
  have fin : ∀ (its : List Value), Vals ys its → ys.length ≤ sizeLine → ∀ (h' : Heap) (c' : Nat), (∀ b o', s.heap.get? b = some o' → h'.get? b = some o') →
      h'.get? s.heap.objs.size = some { cls := .type "list", dict := none, data := .seq its.toArray c', slots := #[] } → EP X pins σ Q (.ref s.heap.objs.size) { s with heap := h' } := fun its r' hz h' c' kp e =>
    ⟨.ref s.heap.objs.size, _, I.laid (t' := s.toks) kp (Nat.le_refl _) (show ObjOk X.prog X.w _ h' _ (.lst ys) from ⟨hz, its, c', r', e⟩), rfl, q _ (I.hok.fresh (Nat.le_refl _))⟩
  rcases hq with hq | hq
  · obtain ⟨its, r', pl, hz⟩ := I.list hq
    have hlen := r'.length
    obtain ⟨o, ho, hc, n, hd⟩ := pl.isList
    exact call_list_seq p (.inl rfl) ho hc hd (fun h' c' kp e => fin its r' hz h' c' kp e) (by simp only [List.size_toArray] <;> omega)
  · obtain ⟨its, r', pl, hz⟩ := I.tuple hq
    have hlen := r'.length
    obtain ⟨o, ho, hc, n, hd⟩ := pl
    exact call_list_seq p (.inr rfl) ho hc hd (fun h' c' kp e => fin its r' hz h' c' kp e) (by simp only [List.size_toArray] <;> omega)
theorem call_tuple_of : CallR X (.type "tuple") (fun xs H Q => ∃ p ys, xs = [.ref p] ∧ ((SqL X.K H p ys ∧ ∀ l, H l = none → Q (.ref l) (upd H l (.tup ys))) ∨ (SqT X.K H p ys ∧ Q (.ref p) H))) := by
  intro pins s σ H xs us Q I r h
  obtain ⟨p, ys, rfl, h⟩ := h
  obtain ⟨u, rfl, rx⟩ := vals1 r
  cases rx
  rcases h with ⟨hq, q⟩ | ⟨hq, q⟩
  · obtain ⟨its, r', pl, hz⟩ := I.list hq
    have hlen := r'.length
    refine call_tuple_list pl.isList (fun h' kp => ?_) (by simp only [List.size_toArray] <;> omega)
    have I1 : Inv X pins σ H { s with heap := h' } := I.kept (t' := s.toks) kp
    have I2 : Inv X pins σ (upd H h'.objs.size (.tup ys)) { s with heap := h'.push { cls := .type "tuple", data := .seq its.toArray } } :=
      I1.laid (t' := s.toks) (fun b o e => Heap.get?_push_of_some _ e) (Nat.le_refl _) (show ObjOk X.prog X.w _ _ _ (.tup ys) from ⟨hz, its, r', TupN.new _ _⟩)
    exact ⟨.ref h'.objs.size, _, I2, rfl, q _ (I1.hok.fresh (Nat.le_refl _))⟩
  · obtain ⟨its, r', pl, hz⟩ := I.tuple hq
    exact call_tuple_same pl ⟨.ref p, H, I, rfl, q⟩

/-! ### the call of a builtin's method: o.m(..) -/
/-- the value is of that builtin type -/
def tyV (K : PySem.W.Frag) (T : String) (x : V) (H : Hp) : Prop := match x with
  | .str _ => T = "str"
  | .int _ => T = "int"
  | .ref p => (T = "list" ∧ ∃ xs, SqL K H p xs) ∨ (T = "tuple" ∧ ∃ o, K.lookup p = some o ∧ o.cls = .type "tuple" ∧ o.dict = none) ∨
      (T = "dict" ∧ ((∃ kvs, H p = some (.dK kvs)) ∨ ∃ kvs, H p = some (.dT kvs))) ∨ (T = "set" ∧ ∃ S n, H p = some (.set S n))
  | _ => False
theorem tyV_is {pins : List (Addr × Obj)} {σ : St} {H : Hp} {s : Shared} {T : String} {x : V} {v : Value} (I : Inv X pins σ H s) (r : RelV x v) (ty : tyV X.K T x H) :
    s.TypeIs v T ∧ ∀ a, v = .ref a → ∃ ob, s.heap.get? a = some ob ∧ ob.dict = none := by
  cases x with
  | str z =>
    obtain ⟨t, rfl⟩ := r
    cases (show T = "str" from ty)
    exact ⟨typeIs_str s z t, fun _ e => nomatch e⟩
  | int i =>
    obtain ⟨t, rfl⟩ := r
    cases (show T = "int" from ty)
    exact ⟨typeIs_int s i t, fun _ e => nomatch e⟩
  | ref p =>
    cases r
    rcases ty with ⟨rfl, xs, hq⟩ | ⟨rfl, o, hk, hc, hd⟩ | ⟨rfl, hk⟩ | ⟨rfl, S, n, hk⟩
    · obtain ⟨its, _, pl, _⟩ := I.list hq
      refine ⟨pl.isList.typeIs, fun a e => ?_⟩
      cases e
      obtain ⟨o, n, e, c, hd, _⟩ := pl
      exact ⟨o, e, hd⟩
    · refine ⟨⟨o, I.kIn p o hk, hc⟩, fun a e => ?_⟩
      cases e
      exact ⟨o, I.kIn _ o hk, hd⟩
    · have z : ∃ o, s.heap.get? p = some o ∧ o.ExactDict := by
        rcases hk with ⟨kvs, hk⟩ | ⟨kvs, hk⟩
        · obtain ⟨_, _, _, _, o, _, _, e, ex, _⟩ := I.hok p _ hk
          exact ⟨o, e, ex⟩
        · obtain ⟨_, _, _, _, o, _, _, e, ex, _⟩ := I.hok p _ hk
          exact ⟨o, e, ex⟩
      obtain ⟨o, e, ex⟩ := z
      refine ⟨⟨o, e, ex.1⟩, fun a e2 => ?_⟩
      cases e2
      exact ⟨o, e, ex.2.1⟩
    · obtain ⟨o, _, _, _, e, ex, _⟩ := I.hok p _ hk
      refine ⟨⟨o, e, ex.1⟩, fun a e2 => ?_⟩
      cases e2
      exact ⟨o, e, ex.2.1⟩
  | _ => exact False.elim ty
def tBM (K : PySem.W.Frag) (T : String) (r : V → List V → Hp → VK → Prop) (to : TE) (t : TA) : TE := fun σ H Q => to σ H fun x H1 => tyV K T x H1 ∧ t σ H1 fun xs H2 => r x xs H2 Q
variable {o e : Expr} {es : List Expr} {to : TE} {t : TA} {name : Str} {apos cpos : Pos} {T id : String} {r : V → List V → Hp → VK → Prop}
theorem pe_bm (pa : PlainAttrs T) (slot : Slot T name id) (hty : typeOf (.builtin id) = pure (.type "method_descriptor")) (hm : MtR X id r) (ho : PE X o to) (ha : PA X (e :: es) t)
    (hbase : attributeBase o name X.env (eval o X.env) = eval o X.env := by rfl)
    (hfew : ((backTo cpos (starEach (e :: es) X.env)).all (fun x => !x.1) && (backToKw cpos (keywordEach [] X.env)).all (fun x => x.1.isSome)
      && decide ((e :: es).length + ([] : List Keyword).length + (if ([] : List Keyword).isEmpty then 0 else 1) < 30)) = true := by rfl)
    (hline : (apos.endLine == cpos.line) = true := by rfl) (hs : starEach (e :: es) X.env = (false, eval e X.env) :: starEach es X.env := by rfl) (hplain : (backTo cpos (starEach es X.env)).any (·.1) = false := by rfl) :
    PE X (.Call (.Attribute o name apos) (e :: es) [] cpos) (tBM X.K T r to t) := by
  intro pins s σ H Q I h
  refine wpAny_Call_method_late hbase hfew hline rfl (thn (ho pins s σ H _ I h) fun v s1 ⟨x, H1, I1, r1, ty, q1⟩ => ?_)
  obtain ⟨h1, h2⟩ := tyV_is I1 r1 ty
  refine ⟨T, id, pa, slot, hty, h1, h2, ?_⟩
  have hA := ha cpos pins s1 σ H1 _ I1 q1
  rw [hs] at hA ⊢
  refine Calls.callWith_builtin (by show (false || (backTo cpos (starEach es X.env)).any (·.1)) = false; rw [hplain] <;> rfl) (Calls.evalArgs_plain ?_)
  exact thn hA fun us s2 ⟨vs, H2, I2, r2, q2⟩ => hm pins s2 σ H2 x vs v us Q I2 r1 r2 q2
/- xs.append(e), list.index on a module's tuple .. are MtR facts of 06m -/
end
end L2

namespace L2
open PySem PySem.Spec PyProof.Rows

def MtM (X : Cx) (id : String) (r : V → List V → Hp → VK → Prop) : Prop :=
  ∀ (pins : List (Addr × Obj)) (s : Shared) (σ : St) (H : Hp) (x : V) (xs : List V) (v : Value) (us : List Value) (Q : VK), Inv X pins σ H s → RelV x v → Vals xs us → r x xs H Q →
    wpAny (model X.prog X.w) X.A (call (.builtin id) (v :: us)) (EP X pins σ Q) X.xe s

/-! ### lists of values -/
theorem Vals.one : ∀ {x : V} {us : List Value}, Vals [x] us → ∃ u, us = [u] ∧ RelV x u
  | _, _, .cons r .nil => ⟨_, rfl, r⟩
theorem Vals.two : ∀ {x y : V} {us : List Value}, Vals [x, y] us → ∃ u v, us = [u, v] ∧ RelV x u ∧ RelV y v
  | _, _, _, .cons r (.cons q .nil) => ⟨_, _, rfl, r, q⟩
theorem Vals.zero : ∀ {us : List Value}, Vals [] us → us = []
  | _, .nil => rfl
theorem Vals.eraseIdx : ∀ {xs : List V} {us : List Value} (i : Nat), Vals xs us → Vals (xs.eraseIdx i) (us.eraseIdx i)
  | _, _, _, .nil => .nil
  | _, _, 0, .cons _ t => t
  | _, _, i + 1, .cons r t => .cons r (Vals.eraseIdx i t)
theorem Vals.reverse {xs : List V} {us : List Value} (h : Vals xs us) : Vals xs.reverse us.reverse := by
  induction h with
  | nil => exact .nil
  | cons r t ih => rw [List.reverse_cons, List.reverse_cons]; exact Vals.append ih (.cons r .nil)
theorem Vals.rep {xs : List V} {us : List Value} (h : Vals xs us) : ∀ k : Nat, Vals (List.replicate k xs).flatten (List.replicate k us).flatten
  | 0 => .nil
  | k + 1 => by
    rw [List.replicate_succ, List.replicate_succ, List.flatten_cons, List.flatten_cons]
    exact Vals.append h (Vals.rep h k)
theorem len_erase {α : Type} : ∀ (l : List α) (i : Nat), (l.eraseIdx i).length ≤ l.length
  | [], _ => Nat.le_refl _
  | _ :: _, 0 => Nat.le_succ _
  | _ :: r, i + 1 => Nat.succ_le_succ (len_erase r i)

section
variable {X : Cx} {pins : List (Addr × Obj)} {σ : St} {H : Hp} {s : Shared} {l b : Addr} {xs ys zs : List V}

/-! ### the two steps: a tracked list is rewritten, a new list is laid -/
theorem Inv.lset {its its' : List Value} {n : Nat} {f : Array Value → Array Value} {t' : Nat} (I : Inv X pins σ H s) (hH : H l = some (.lst xs))
    (e : s.heap.get? l = some { cls := .type "list", data := .seq its.toArray n }) (hf : f its.toArray = its'.toArray) (hv : Vals ys its') (hz : ys.length ≤ sizeLine) :
    Inv X pins σ (upd H l (.lst ys)) { s with heap := s.heap.update l (Obj.mapSeq f), toks := t' } := by
  have q := PySem.IsL.update e f
  rw [hf] at q
  refine I.write (x := l) (e := l) (by rw [hH]; exact trivial) (.inl rfl) (fun b' u hb hu => (Heap.get?_update_other s.heap (Obj.mapSeq f) (Ne.symm hb)).trans hu) ⟨_, q⟩ ?_
  exact ⟨hz, its', _, hv, q⟩
theorem Inv.lnew {its : List Value} {t' : Nat} (I : Inv X pins σ H s) (hv : Vals ys its) (hz : ys.length ≤ sizeLine) :
    Inv X pins σ (upd H s.heap.objs.size (.lst ys)) { s with heap := s.heap.push { cls := .type "list", data := .seq its.toArray }, toks := t' } :=
  I.laid (fun _ _ q => Heap.get?_push_of_some _ q) (Nat.le_refl _) ⟨hz, its, 0, hv, Heap.get?_push_size _ rfl⟩
theorem Inv.fresh (I : Inv X pins σ H s) : H s.heap.objs.size = none := I.hok.fresh (Nat.le_refl _)
theorem Inv.lstM (I : Inv X pins σ H s) (hH : H l = some (.lst xs)) : xs.length ≤ sizeLine ∧ ∃ (its : List Value) (n : Nat), Vals xs its ∧ xs.length = its.length ∧ s.heap.get? l = some { cls := .type "list", data := .seq its.toArray n } := by
  obtain ⟨z, its, n, r, e⟩ := I.hok l _ hH
  exact ⟨z, its, n, r, r.length, e⟩

end

section
variable {X : Cx}

/-! ### methods -/
def rAppend : V → List V → Hp → VK → Prop := fun x vs H Q => ∃ l xs y, x = .ref l ∧ vs = [y] ∧ H l = some (.lst xs) ∧ xs.length < sizeLine ∧ Q .non (upd H l (.lst (xs ++ [y])))
theorem mt_append : MtM X "list.append" rAppend := by
  intro pins s σ H x vs v us Q I rx rv h
  obtain ⟨l, xs, y, rfl, rfl, hH, hz, q⟩ := h
  cases rx
  obtain ⟨u, rfl, ru⟩ := rv.one
  obtain ⟨z, its, n, r, hl, e⟩ := I.lstM hH
  refine call_meets F.slot_list_append ⟨_, e, rfl⟩ F.entry_list_append (F.args_list_append_2 _ _) (PySem.list_append l its.toArray n u (by rw [List.size_toArray]; omega)) ⟨e, ?_⟩
  refine ⟨.non, _, I.lset (its' := its ++ [u]) hH e (by simp) (r.append (.cons ru .nil)) ?_, rfl, q⟩
  rw [List.length_append, List.length_singleton]
  omega



def rPopAt : V → List V → Hp → VK → Prop := fun x vs H Q => ∃ l xs i k y, x = .ref l ∧ vs = [.int i] ∧ H l = some (.lst xs) ∧ -(2 ^ 63) ≤ i ∧ i < 2 ^ 63 ∧ seqIndex? i xs.length = some k ∧ xs[k]? = some y ∧ Q y (upd H l (.lst (xs.eraseIdx k)))
theorem mt_popAt : MtM X "list.pop" rPopAt := by
  intro pins s σ H x vs v us Q I rx rv h
  obtain ⟨l, xs, i, k, y, rfl, rfl, hH, h1, h2, hk, hy, q⟩ := h
  cases rx
  obtain ⟨u, rfl, ru⟩ := rv.one
  obtain ⟨t, rfl⟩ := ru
  obtain ⟨z, its, n, r, hl, e⟩ := I.lstM hH
  obtain ⟨w, hw, rw'⟩ := r.get hy
  refine call_meets F.slot_list_pop ⟨_, e, rfl⟩ F.entry_list_pop (F.args_list_pop_2 _ _)
    (MeetsSeq.list_pop_at l its.toArray n i t k w (fitsIndex_both h1 h2) (by rw [List.size_toArray, ← hl]; exact hk) (by rw [← Array.getElem?_toList]; exact hw) (by rw [List.size_toArray]; omega)) ⟨e, ?_⟩
  refine ⟨y, _, I.lset (its' := its.eraseIdx k) hH e ?_ (r.eraseIdx k) ?_, rw', q⟩
  · show its.toArray.eraseIdxIfInBounds k = (its.eraseIdx k).toArray
    rw [List.eraseIdxIfInBounds_toArray]
  · have := len_erase xs k
    omega



/-! ### list + list, list += list, list * int -/
def rCat : R2 := fun x y H Q => ∃ l b xs zs, x = .ref l ∧ y = .ref b ∧ H l = some (.lst xs) ∧ H b = some (.lst zs) ∧ xs.length + zs.length ≤ sizeLine ∧ ∀ p, H p = none → Q (.ref p) (upd H p (.lst (xs ++ zs)))
theorem op_cat : OpR X (binaryOp .Add) rCat := by
  intro pins s σ H x y v u Q I rx ry h
  obtain ⟨l, b, xs, zs, rfl, rfl, hH, hB, hz, q⟩ := h
  cases rx
  cases ry
  obtain ⟨z, its, n, r, hl, e⟩ := I.lstM hH
  obtain ⟨z2, its2, n2, r2, hl2, e2⟩ := I.lstM hB
  refine PySem.P.add_list e e2 ?_ (by rw [List.size_toArray, List.size_toArray]; omega)
  have ea : its.toArray ++ its2.toArray = (its ++ its2).toArray := by simp
  rw [ea]
  exact ⟨.ref _, _, I.lnew (t' := s.toks) (r.append r2) (by rw [List.length_append]; omega), rfl, q _ I.fresh⟩

/-! ### del xs[i] -/
end

/-! ### xs[a:b] = ys -/
section
variable {prog : Program} {w : World} {A : Around} {E : Value → Shared → Prop} {s : Shared}
end

section
variable {X : Cx}
end
end L2

namespace Att
open PySem PySem.W PySem.Calls PyProof.Rows

/-! ### the script -/
theorem ints_of_wellAll {P : Params} {h : Heap} : ∀ (ns : List Int) (vs : List Value), WellAll P h vs (ns.map WData.int) → IntsAre vs ns := by
  intro ns
  induction ns with
  | nil =>
    intro vs w
    rw [List.map_nil] at w
    cases w
    exact .nil
  | cons n ns ih =>
    intro vs w
    rw [List.map_cons] at w
    cases w with
    | cons a b =>
      cases a
      exact .cons _ _ (ih _ b)

theorem script_of {l : OpenLaw} {n : Nat} (hn : l.most = some n) {P : Params} {h : Heap} {args : List WData} {vals : List Value}
    (hpre : l.row.toRowW.claim.pre args = true) (hwl : WellAll P h vals args) :
    ∃ a vs ns, vals = [Value.ref a] ∧ args = [WData.list (ns.map WData.int)] ∧ h.get? a = some { cls := .type "list", data := .seq vs.toArray } ∧ IntsAre vs ns ∧ ns.length ≤ n := by
  have hsh : WShape.hasAll [] args [.list .int] = true := (pre_splitW hpre).1
  have hc : l.pre.holds [] { args := args } = true := (pre_splitW hpre).2
  obtain ⟨d, r, rfl, h1, h2⟩ := hasAllW_cons hsh
  obtain rfl := hasAllW_nil h2
  obtain ⟨xs, rfl, h3⟩ := hasW_list h1
  obtain ⟨ns, rfl⟩ := items_int h3
  have hlen : ns.length ≤ n := by
    unfold OpenLaw.pre at hc
    have h4 : (WTm.not (.lt (.lit (.int (n : Int))) (.len (.arg 0)))).holds [] { args := [.list (ns.map .int)] } = true := by
      have h4 := (holds_andW hc).1
      rw [hn] at h4
      exact h4
    have h5 := condW_of h4 (w_not (w_lt w_lit (w_len_list (w_arg rfl))))
    rw [List.length_map] at h5
    refine Nat.le_of_not_lt fun q => ?_
    have q' : (n : Int) < ((ns.length : Nat) : Int) := by omega
    first
      | (rw [decide_eq_true q'] at h5; exact absurd h5 (by decide))
      | (simp at h5; omega)
  cases hwl with
  | cons w1 w2 =>
    cases w2
    cases w1 with
    | list ho hall => exact ⟨_, _, ns, rfl, rfl, ho, ints_of_wellAll ns _ hall, hlen⟩

theorem post_true (l : OpenLaw) (args : List WData) : l.row.toRowW.claim.post args (.bool true) args = true :=
  postW_of (r := l.row.toRowW) (X := (true == true))
    (show WShape.has [] (.bool true) .bool = true by first | rfl | decide | simp [WShape.has, WShape.arms, WShape.armsAll])
    (show (WTm.eq .res (.lit (.bool true))).value [] { args := args, res := some (.bool true), after := args } = some (.bool (true == true)) from w_eq_bool (w_res rfl) w_lit) rfl

/-! ### the attachment: holds_open's last premise (the goal 'hc' behind k_head) from a wpAny of the law's body -/

/-- the same from a codeAny of the CALL (for a layer whose function contracts speak of calls) -/
theorem attach_call {l : OpenLaw} {n : Nat} {q : Program} {loose : List Str} {XP : (Str → Option Value) → Heap → Prop} {YP : World → Heap → Prop} {d : DefRec}
    (hn : l.most = some n) (hdf : d.params.defaults = [])
    (call : ∀ (w : World) (s₀ s₁ : Shared) (mg mb : Str → Option Value) (fa : Addr) (o : Obj) (pm cd doc : Value) (a : Addr) (vs : List Value) (ns : List Int),
      Ground q loose [] XP w s₀ mg mb s₁.heap → YP w s₁.heap →
      s₁.heap.get? fa = some o → o.data = .func (docDef d.name d.params d.body d.scope pm cd doc) → s₁.heap.CodeRec cd d.name → mg d.name = some (.ref fa) →
      s₁.heap.get? a = some { cls := .type "list", data := .seq vs.toArray } → IntsAre vs ns → ns.length ≤ n → s₁.gens = #[] →
      codeAny (model l.prog w) callerA (.call (.ref fa) ⟨[.ref a], []⟩) (fun r s' => r = .ok (.ret (.bool true)) ∧ OldK s₁.heap s'.heap ∧ s'.os = s₁.os ∧ AllBare s'.gens) s₁) :
    WalkO q loose XP YP l.row.toRowW d [] (fun f vs => PySem.call f vs) := by
  intro w s₀ s₁ mg mb G Y fa o pm cd doc dV kV ho hd hcd hD hmg hg args vals as hpre hlay hrd hwl hlo
  obtain rfl : dV = .none := Dflts.none hD hdf
  obtain rfl : kV = .none := Dflts.noKw hD
  obtain ⟨a, vs, ns, rfl, rfl, hobj, hints, hlen⟩ := script_of hn hpre hwl
  refine enter_call (codeAny_mono (call w s₀ s₁ mg mb fa o pm cd doc a vs ns G Y ho (fd_plain hd) hcd hmg hobj hints hlen hg) fun r s' hq => ?_)
  obtain ⟨rfl, h2, h3, h4⟩ := hq
  exact ⟨.inl ⟨.bool true, .bool true, [], rfl, fun _ => rfl, .bool true, post_true l _, fun _ => ⟨List.Pairwise.nil, fun _ hm => (nomatch hm)⟩⟩, h2, h3, h4⟩


/-! ### rules over ANY heap (no ledger) from facts about the written part K: the library's own take a ledger (News) for what they write -/
section
variable {prog : Program} {w : World} {A : Around} {E : Value → Shared → Prop} {s : Shared} {K : Frag}





/-! the whole heap as the ledger: makes every rule that writes through a ledger a rule over any heap -/
def ledger (h : Heap) (L d : Addr) : List (Addr × Obj) := (List.range h.objs.size).filterMap fun a => if a = L ∨ a = d then none else (h.get? a).map fun o => (a, o)

end
end Att

namespace L2
open PySem PySem.Spec PyProof.Rows

theorem vals_ints : ∀ {vs : List Value} {ns : List Int}, IntsAre vs ns → Vals (ns.map V.int) vs
  | _, _, .nil => .nil
  | _, _, .cons n t h => .cons ⟨t, rfl⟩ (vals_ints h)

/-- nothing is tracked but the script, known to the object (or it is an object of the module) -/
def Only (H : Hp) : Prop := ∀ b, H b = none ∨ ∃ o xs, H b = some (.frz o (.lst xs))

/-- THE HEAD: the law's promise, at the heap behind the top. F, the promise of the law's def, may use that base is part of the heap (so K.In base, base.Ns mainGlobals mg stand in Mod) -/
theorem law_call {P : Program} {w : World} {K : PySem.W.Frag} {mg mb : Str → Option Value} {CX : CXT} {k : Nat} {fa a : Addr} {fd : FuncData} {x : Str} {sp : Sp} {s₁ : Shared} {vs : List Value} {ns : List Int}
    (KX : K.In s₁.heap) (hns : s₁.heap.Ns mainGlobals mg) (hb : s₁.heap.Ns builtinsNs mb) (hbb : ∀ x : Str, x ≠ "__name__" → mb x = bootBuiltins x) (hlim : s₁.heap.NoLimit) (hg : s₁.gens = #[])
    (ha : s₁.heap.get? a = some { cls := .type "list", data := .seq vs.toArray }) (hi : IntsAre vs ns) (hl : ns.length ≤ sizeLine) (hr : Room k callerA)
    (F : ∀ base : Heap, K.In base → base.Ns mainGlobals mg → FnOk P w K mg base CX k fa fd [x] sp) (hbind : ∀ (s : Shared) (u : Value), BindsTo s fd ⟨[u], []⟩ [(x, u)])
    (hsp : ∀ H : Hp, Only H → SqL K H a (ns.map V.int) → sp [.ref a] H (fun v _ => v = .bl true) fun _ _ _ => False)
    (hCX : ∀ H e s', CX [] H s₁ (fun _ _ _ => False) e s' → False) :
    codeAny (model P w) callerA (.call (.ref fa) ⟨[.ref a], []⟩) (fun r s' => r = .ok (.ret (.bool true)) ∧ OldK s₁.heap s'.heap ∧ s'.os = s₁.os ∧ AllBare s'.gens) s₁ := by
  have rv := vals_ints hi
  have lenV := hi.length
  -- from an abstract heap in which nothing but the script may be tracked
  have core : ∀ H : Hp, Only H → SqL K H a (ns.map V.int) → HOk P w H s₁.heap → (∀ b, H b ≠ none → b = a) → (H a ≠ none → K.lookup a = none) →
      codeAny (model P w) callerA (.call (.ref fa) ⟨[.ref a], []⟩) (fun r s' => r = .ok (.ret (.bool true)) ∧ OldK s₁.heap s'.heap ∧ s'.os = s₁.os ∧ AllBare s'.gens) s₁ := by
    intro H hO hS hok hA hK
    have base_of : ∀ {b : Addr} {o : Obj}, s₁.heap.get? b = some o → H b = none → (hidT s₁.heap H).get? b = some o := fun e n => hidT_get e n
    have noA : ∀ {b : Addr} {o : Obj} {es : Array DictEntry} {ep : Nat}, s₁.heap.get? b = some o → o.data = .dict es ep → H b = none := fun {b o es ep} e d => by
      cases q : H b with
      | none => rfl
      | some u =>
        have e' : b = a := hA b (by rw [q]; simp)
        subst e'
        rw [ha] at e; cases e
        have d' : Data.seq vs.toArray _ = Data.dict es ep := d
        cases d'
    have nsK : ∀ {b : Addr} {m : Str → Option Value}, s₁.heap.Ns b m → (hidT s₁.heap H).Ns b m := fun {b m} ⟨o, es, ep, e, d, r⟩ => ⟨o, es, ep, base_of e (noA e d), d, r⟩
    have hKb : K.In (hidT s₁.heap H) := fun b o e => base_of (KX b o e) (by
      cases q : H b with
      | none => rfl
      | some u =>
        have e' : b = a := hA b (by rw [q]; simp)
        subst e'
        rw [hK (by rw [q]; simp)] at e; cases e)
    have hM : Mod K mg (hidT s₁.heap H) := ⟨hKb, nsK hns, ⟨mb, nsK hb, hbb⟩, let ⟨mc, h1, h2⟩ := hlim; ⟨mc, nsK h1, h2⟩⟩
    have e0 : Env0 P w K mg (hidT s₁.heap H) callerA [] s₁ H := ⟨rfl, hM, fun b o e => of_hidT e, Nat.le_of_eq (hidT_size _ _), trivial, fun b hb => absurd (show b ∈ ([] : List Addr) from hb) (by simp), hok, .of_eq hg⟩
    refine codeAny_mono ((F _ hKb (nsK hns)).run callerA [] s₁ H ⟨[.ref a], []⟩ [.ref a] [.ref a] _ _ hr e0 (hbind s₁ (.ref a)) (.cons rfl .nil) (hsp H hO hS)) fun r s' h => ?_
    cases r with
    | error e => exact (hCX H e s' h).elim
    | ok fl =>
      cases fl with
      | next => exact False.elim h
      | brk => exact False.elim h
      | cont => exact False.elim h
      | ret u =>
        obtain ⟨v, H', os, bare, un, hok', r', q⟩ := h
        have q' : v = .bl true := q
        subst q'
        obtain rfl : u = Value.bool true := r'
        refine ⟨rfl, OldK.of_keep fun b o e => ?_, os, bare⟩
        cases q : H b with
        | none => exact un.keep b o e q (by intro z; exact absurd (show b ∈ ([] : List Addr) from z) (by simp)) (by simp)
        | some u =>
          rcases hO b with z | ⟨ob, xs, z⟩
          · rw [q] at z; cases z
          · have z2 := un.frzs b ob _ z
            obtain ⟨e1, _⟩ := hok b _ z
            obtain ⟨e2, _⟩ := hok' b _ z2
            rw [e] at e1; cases e1
            exact e2
  cases hk : K.lookup a with
  | some o =>
    -- the script is one of the module's own objects
    have e := KX a o hk
    rw [ha] at e
    cases e
    refine core (fun _ => none) (fun _ => .inl rfl) (.inr ⟨_, vs.toArray, _, hk, rfl, rfl, rfl, by rw [List.size_toArray, lenV]; exact hl, by simpa using rv⟩) (fun b u z => by have z' : (none : Option HO) = some u := z; cases z') (fun b z => absurd rfl z) fun z => absurd rfl z
  | none =>
    refine core (fun b => if b = a then some (.frz { cls := .type "list", data := .seq vs.toArray } (.lst (ns.map V.int))) else none) (fun b => ?_) (.inl (.inr ⟨{ cls := .type "list", data := .seq vs.toArray }, if_pos rfl⟩)) (fun b u z => ?_) (fun b z => ?_) fun _ => hk
    · by_cases hb : b = a
      · exact .inr ⟨_, _, if_pos hb⟩
      · exact .inl (if_neg hb)
    · by_cases hb : b = a
      · have z' := (if_pos hb).symm.trans z
        cases z'
        subst hb
        exact ⟨ha, by rw [List.length_map]; exact hl, vs, _, rv, ha⟩
      · have z' := (if_neg hb).symm.trans z
        cases z'
    · by_cases hb : b = a
      · exact hb
      · exact absurd (if_neg hb) z
end L2

namespace L2
open PySem PySem.Spec PyProof.Rows

abbrev KOf {K : PySem.W.Frag} {h : Heap} (_ : K.In h) : PySem.W.Frag := K

/-- the goal that k_head leaves (case hc), from the law's promise. F gives the function object fd (K's own) once, then the promise over every base -/
theorem walk_of {l : PySem.W.OpenLaw} {n k : Nat} {q : Program} {loose : List Str} {XP : (Str → Option Value) → Heap → Prop} {YP : World → Heap → Prop} {d : DefRec} {K : Params → PySem.W.Frag} {CX : World → CXT} {sp : World → Sp} {x : Str}
    (hn : l.most = some n) (hn2 : n ≤ sizeLine) (hdf : d.params.defaults = []) (hr : Room k callerA)
    (hY : ∀ (w : World) (h : Heap), YP w h → (K w.params).In h)
    (F : ∀ (w : World) (mg : Str → Option Value) (fa : Addr) (h : Heap), (K w.params).In h → h.Ns mainGlobals mg → mg d.name = some (.ref fa) →
      ∃ fd : FuncData, (∀ (s : Shared) (u : Value), BindsTo s fd ⟨[u], []⟩ [(x, u)]) ∧
        ∀ base : Heap, (K w.params).In base → base.Ns mainGlobals mg → FnOk l.prog w (K w.params) mg base (CX w) k fa fd [x] (sp w))
    (hsp : ∀ (w : World) (H : Hp) (a : Addr) (ns : List Int), ns.length ≤ n → Only H → SqL (K w.params) H a (ns.map V.int) → sp w [.ref a] H (fun v _ => v = .bl true) fun _ _ _ => False)
    (hCX : ∀ (w : World) (H : Hp) (s : Shared) (e : Value) (s' : Shared), CX w [] H s (fun _ _ _ => False) e s' → False) :
    PySem.W.WalkO q loose XP YP l.row.toRowW d [] (fun f vs => PySem.call f vs) := by
  refine Att.attach_call hn hdf fun w s₀ s₁ mg mb fa o pm cd doc a vs ns G Y ho hd hcd hmg hobj hints hlen hg => ?_
  have KX := hY w _ Y
  obtain ⟨fd, hb, hF⟩ := F w mg fa _ KX G.T.g hmg
  exact law_call KX G.T.g G.T.b G.T.builtins G.T.nolimit hg hobj hints (Nat.le_trans hlen hn2) hr hF hb (fun H hO hS => hsp w H a ns hlen hO hS) fun H e s' => hCX w H s₁ e s'
end L2

/- THE LAST THEOREM (shape; LID, My.* are yours):
   My.Adr: a structure of the addresses that your layer names (classes, functions); My.Txt K t: a structure (Prop) of the equations over K;
   My.txt_mk : {K} {implicit addresses ..} (e1 : nsIn K mainGlobals "law" = some (some (.ref f))) (e2 : K.lookup f = some ⟨oc, od, .func (fnOf "law" "law" params body scope dV kV doc pm an cdv ct), sl⟩) (e3 : codeIn K cdv "law" = true) .. : ∃ t, My.Txt K t

set_option maxRecDepth 100000 in
set_option maxHeartbeats 0 in
theorem PySem.Challenge.cw_LID_holds : PySem.Challenge.rw_LID.Holds := by
  w_on; o_law; k_head; (case hw => w_witness2)
  k_fill
  refine L2.walk_of (l := PySem.Challenge.rw_LID) (n := 63) (k := 40) (x := "script") (CX := fun w => ..) (sp := fun _ => My.sp_law) rfl (by decide) rfl ⟨rfl, by decide, by decide⟩ (fun w h Y => PySem.W.kIn_of Y) ?F ?S ?C
  case F =>
    intro w mg fa h KX G hmg
    have T : ∃ t, My.Txt (L2.KOf KX) t := by
      dsimp only [L2.KOf]                          -- K must stand as «<heap const> w.params» for k_is
      refine' My.txt_mk ?e1 ?e2 ?e3 ..
      (case e1 => PySem.W.k_is)                    -- in the order: a name -> its address -> its object -> its parts
      (case e2 => PySem.W.k_is)
      ..
    obtain ⟨t, T⟩ := T
    have e0 := hmg.symm.trans (PySem.W.mg_of KX G T.law)
    cases e0                                       -- fa is the law's own address
    exact ⟨_, fun s u => .of_eq rfl, fun base kb nb => My.law_fn T kb nb⟩     -- if «.of_eq rfl» comes too early: refine' ⟨_, ?b, fun base kb nb => My.law_fn T kb nb⟩; exact fun s u => .of_eq rfl
  case S => exact fun w H a ns hl hO hS => ..
  case C => exact ..
(the tactic k_is has no namespace: write k_is) -/

/-! SHORT WORDS over the layer: a def of the text, its body, what a loop and a test want. -/
namespace L2
open PySem PySem.Spec PyProof.Rows

/-! ### the text by places -/
/-- the j-th statement of a class's body -/
def inClass (s : Stmt) (j : Nat) : Stmt := match s with
  | .ClassDef _ _ _ body _ _ _ _ _ _ _ => body.getD j (.Pass ⟨0, 0, 0, 0⟩)
  | _ => .Pass ⟨0, 0, 0, 0⟩
def defArgs (s : Stmt) : Arguments := match s with
  | .FunctionDef _ a _ _ _ _ _ _ _ _ => a
  | _ => { posonlyargs := [], args := [], vararg := none, kwonlyargs := [], kw_defaults := [], kwarg := none, defaults := [] }
def defBody (s : Stmt) : List Stmt := match s with
  | .FunctionDef _ _ b _ _ _ _ _ _ _ => b
  | _ => []
def defScope (s : Stmt) : Scope := match s with
  | .FunctionDef _ _ _ _ _ _ sc _ _ _ => sc
  | _ => { kind := .function, names := [], isGenerator := false, isCoroutine := false }

/-! ### no exception leaves a def -/
abbrev CX0 : CXT := fun _ _ _ _ _ _ => False
abbrev E0 : XK := fun _ _ _ => False
theorem pass0 {X : Cx} : Passes CX0 X E0 := fun _ _ _ _ _ _ _ h => h.elim

/-! ### a def (or method) of the text as it stands behind the top -/
structure Fun (K : PySem.W.Frag) (x qual : Str) (st : Stmt) (f : Addr) (fd : FuncData) : Prop where
  ex : ∃ (oc : Value) (od : Option Addr) (kV doc pm : Value) (an : Option Addr) (cdv ct : Value) (osl : Array (Option Value)),
    fd = PySem.W.fnOf x qual (defArgs st) (defBody st) (defScope st) .none kV doc pm an cdv ct ∧ K.lookup f = some ⟨oc, od, .func fd, osl⟩ ∧ PySem.W.codeIn K cdv qual = true
  kp : PySem.W.keepIn K (.ref f) = true
section
variable {P : Program} {w : World} {K : PySem.W.Frag} {mg : Str → Option Value} {base : Heap}
/-- THE RULE for a def: its body as a term of rules, and the reading of that term -/
theorem Fun.ok {x qual : Str} {st : Stmt} {f : Addr} {fd : FuncData} {N ps : List Str} {k : Nat} {sp : Sp} (F : Fun K x qual st f fd) (S : FnScope N ps (defScope st)) (len : ∀ vs H Q E, sp vs H Q E → vs.length = ps.length)
    (hbody : ∀ (cdv : Value) (A : Around) (outer : List Env) (s : Shared) (H : Hp) (vs : List V) (Q : VK) (E : XK), Room k (A.deeper (envOfC qual (defScope st) s.heap.objs.size f cdv)) → sp vs H Q E →
      ∃ t, PSs (cxOf CX0 P w K mg base N qual (defScope st) f cdv A outer s H E).nox (defBody st) t ∧ t { nx := fun _ H' => Q .non H', rt := Q } (start N vs) H) : FnOk P w K mg base CX0 (k + 1) f fd ps sp := by
  obtain ⟨oc, od, kV, doc, pm, an, cdv, ct, osl, rfl, lk, hcd⟩ := F.ex
  refine fn_of lk hcd S len fun A outer s H vs Q E hr hsp => ?_
  obtain ⟨t, h, q⟩ := hbody cdv A outer s H vs Q E hr hsp
  exact ⟨t, h.nox, q⟩
/-- how its arguments bind (no defaults): h is «fun _ _ _ _ _ _ us hl => match us, hl with | [_, _], _ => rfl», one _ a parameter -/
theorem Fun.binds {x qual : Str} {st : Stmt} {f : Addr} {fd : FuncData} {ps : List Str} (F : Fun K x qual st f fd)
    (h : ∀ (kV doc pm : Value) (an : Option Addr) (cdv ct : Value) (us : List Value), us.length = ps.length → bindArgs (PySem.W.fnOf x qual (defArgs st) (defBody st) (defScope st) .none kV doc pm an cdv ct) ⟨us, []⟩ = pure (ps.zip us)) : Binds K fd ps [] := by
  obtain ⟨oc, od, kV, doc, pm, an, cdv, ct, osl, rfl, lk, hcd⟩ := F.ex
  exact .all (h kV doc pm an cdv ct)
theorem fun_mk {x qual : Str} {st : Stmt} {f : Addr} {oc : Value} {od an : Option Addr} {osl : Array (Option Value)} {kV doc pm cdv ct : Value} (l : K.lookup f = some ⟨oc, od, .func (PySem.W.fnOf x qual (defArgs st) (defBody st) (defScope st) .none kV doc pm an cdv ct), osl⟩)
    (c : PySem.W.codeIn K cdv qual = true) (k : PySem.W.keepIn K (.ref f) = true) : Fun K x qual st f (PySem.W.fnOf x qual (defArgs st) (defBody st) (defScope st) .none kV doc pm an cdv ct) := ⟨⟨oc, od, kV, doc, pm, an, cdv, ct, osl, rfl, l, c⟩, k⟩
end
theorem small1000 {n : Nat} (h : n ≤ 1000) : n < sizeLine := Nat.lt_of_le_of_lt h (by decide)

/-! ### expressions in short: the name that stands in the i-th slot -/
section
variable {X : Cx}
theorem pv (i : Nat) {x : Str} {pos : Pos} (hN : X.N[i]? = some x := by rfl) (hv : Vis X.env.scope x := by first | exact Or.inl rfl | exact Or.inr (Or.inl rfl) | exact Or.inr (Or.inr rfl)) (hd : (x == ("__debug__" : Str)) = false := by decide)
    (hcd : (x == ("__classdict__" : Str)) = false := by decide) : PE X (.Name x pos) (tVar i) := pe_var hN hv hd hcd
end

/-! ### tests -/
theorem iteF {A B : Prop} (h : B) : if false = true then A else B := by
  rw [if_neg Bool.false_ne_true]
  exact h
theorem iteT {A B : Prop} (h : A) : if true = true then A else B := by
  rw [if_pos rfl]
  exact h

/-! ### heaps -/
/-- all that was tracked is as it was -/
def Same (H H' : Hp) : Prop := ∀ b o, H b = some o → H' b = some o
theorem Same.refl (H : Hp) : Same H H := fun _ _ h => h
theorem Same.trans {H H1 H2 : Hp} (a : Same H H1) (b : Same H1 H2) : Same H H2 := fun c o h => b c o (a c o h)
theorem Same.free {H H' : Hp} (e : Same H H') {l : Addr} (h : H' l = Option.none) : H l = Option.none := by
  cases q : H l with
  | none => rfl
  | some o =>
    rw [e l o q] at h
    cases h
theorem Same.seq {K : PySem.W.Frag} {H H' : Hp} {a : Addr} {xs : List V} (e : Same H H') (h : SqL K H a xs) : SqL K H' a xs := by
  rcases h with (h | ⟨o, h⟩) | h
  · exact .inl (.inl (e _ _ h))
  · exact .inl (.inr ⟨o, e _ _ h⟩)
  · exact .inr h

end L2

namespace L2
open PySem PySem.Spec PyProof.Rows

/-! ### lists of pairs as tables -/
section
variable {κ : Type} [DecidableEq κ]
def valV (kvs : List (κ × V)) (k : κ) : Option V := (kvs.find? fun kv => decide (kv.1 = k)).map (·.2)
/-- in its place, or at the end -/
def putK (kvs : List (κ × V)) (k : κ) (v : V) : List (κ × V) :=
  if (kvs.any fun kv => decide (kv.1 = k)) = true then kvs.map (fun kv => if kv.1 = k then (kv.1, v) else kv) else kvs ++ [(k, v)]
def dropK (kvs : List (κ × V)) (k : κ) : List (κ × V) := kvs.filter fun kv => decide (kv.1 ≠ k)

theorem valV_pos {p : κ × V} {r : List (κ × V)} {k : κ} (e : p.1 = k) : valV (p :: r) k = some p.2 := by simp [valV, List.find?_cons, e]
theorem valV_neg {p : κ × V} {r : List (κ × V)} {k : κ} (e : ¬ p.1 = k) : valV (p :: r) k = valV r k := by simp [valV, List.find?_cons, e]
theorem valV_any (k : κ) : ∀ kvs : List (κ × V), (kvs.any fun kv => decide (kv.1 = k)) = (valV kvs k).isSome
  | [] => rfl
  | p :: r => by
    rw [List.any_cons]
    by_cases e : p.1 = k
    · simp only [valV_pos e, decide_eq_true e, Bool.true_or, Option.isSome_some]
    · rw [valV_neg e, decide_eq_false e, Bool.false_or]; exact valV_any k r
theorem length_putK (kvs : List (κ × V)) (k : κ) (v : V) : (putK kvs k v).length ≤ kvs.length + 1 := by
  unfold putK
  split
  · rw [List.length_map]; omega
  · rw [List.length_append, List.length_cons, List.length_nil]; omega

theorem RelO.isSome_eq {o : Option V} {u : Option Value} (r : RelO o u) : o.isSome = u.isSome := by
  cases o with
  | none => cases u with
    | none => rfl
    | some _ => exact (show False from r).elim
  | some _ => cases u with
    | none => exact (show False from r).elim
    | some _ => rfl
theorem RelO.getD {o : Option V} {u : Option Value} {d : V} {d' : Value} (r : RelO o u) (rd : RelV d d') : RelV (o.getD d) (u.getD d') := by
  cases o with
  | none => cases u with
    | none => exact rd
    | some _ => exact (show False from r).elim
  | some _ => cases u with
    | none => exact (show False from r).elim
    | some _ => exact r

/-- raw tables of the same keys -/
theorem KV.val {kvs : List (κ × V)} {vs : List (κ × Value)} (r : KV kvs vs) (k : κ) : RelO (valV kvs k) (valueAt vs k) := by
  unfold KV at r
  induction r with
  | nil => exact True.intro
  | @cons p q ps qs h t ih =>
    obtain ⟨h1, h2⟩ := h
    by_cases e : p.1 = k
    · have e' : q.1 = k := h1.symm.trans e
      have b : valueAt (q :: qs) k = some q.2 := by simp [valueAt, List.find?_cons, e']
      rw [valV_pos e, b]; exact h2
    · have e' : ¬ q.1 = k := fun z => e (h1.trans z)
      have b : valueAt (q :: qs) k = valueAt qs k := by simp [valueAt, List.find?_cons, e']
      rw [valV_neg e, b]; exact ih
theorem KV.any {kvs : List (κ × V)} {vs : List (κ × Value)} (r : KV kvs vs) (k : κ) : (kvs.any fun kv => decide (kv.1 = k)) = vs.any fun kv => decide (kv.1 = k) := by
  unfold KV at r
  induction r with
  | nil => rfl
  | cons h t ih => rw [List.any_cons, List.any_cons, ih, h.1]
theorem KV.repl {kvs : List (κ × V)} {vs : List (κ × Value)} (r : KV kvs vs) (k : κ) {y : V} {u : Value} (ry : RelV y u) :
    KV (kvs.map fun kv => if kv.1 = k then (kv.1, y) else kv) (vs.map fun kv => if kv.1 = k then (kv.1, u) else kv) := by
  unfold KV at r ⊢
  induction r with
  | nil => exact .nil
  | @cons p q ps qs h t ih =>
    rw [List.map_cons, List.map_cons]
    refine .cons ?_ ih
    obtain ⟨h1, h2⟩ := h
    by_cases e : p.1 = k
    · rw [if_pos e, if_pos (h1.symm.trans e)]; exact ⟨h1, ry⟩
    · rw [if_neg e, if_neg (fun z => e (h1.trans z))]; exact ⟨h1, h2⟩
theorem KV.put {kvs : List (κ × V)} {vs : List (κ × Value)} (r : KV kvs vs) (k : κ) {y : V} {u : Value} (ry : RelV y u) : KV (putK kvs k y) (stored vs k u) := by
  unfold putK stored
  rw [r.any k]
  by_cases e : (vs.any fun kv => decide (kv.1 = k)) = true
  · rw [if_pos e, if_pos e]; exact r.repl k ry
  · rw [if_neg e, if_neg e]; exact Paired.snoc r ⟨rfl, ry⟩
theorem KV.drop {kvs : List (κ × V)} {vs : List (κ × Value)} (r : KV kvs vs) (k : κ) : KV (dropK kvs k) (without vs k) := by
  unfold KV at r ⊢
  unfold dropK without
  induction r with
  | nil => exact .nil
  | @cons p q ps qs h t ih =>
    obtain ⟨h1, h2⟩ := h
    rw [List.filter_cons, List.filter_cons]
    by_cases e : p.1 = k
    · have a : ¬ decide (p.1 ≠ k) = true := by simp [e]
      have b : ¬ decide (q.1 ≠ k) = true := by simp [h1.symm.trans e]
      rw [if_neg a, if_neg b]; exact ih
    · have e' : ¬ q.1 = k := fun z => e (h1.trans z)
      have a : decide (p.1 ≠ k) = true := by simp [e]
      have b : decide (q.1 ≠ k) = true := by simp [e']
      rw [if_pos a, if_pos b]; exact .cons ⟨h1, h2⟩ ih
theorem KV.keys {kvs : List (κ × V)} {vs : List (κ × Value)} (r : KV kvs vs) : kvs.map (·.1) = vs.map (·.1) := by
  unfold KV at r
  induction r with
  | nil => rfl
  | cons h t ih => rw [List.map_cons, List.map_cons, ih, h.1]
theorem KV.length {kvs : List (κ × V)} {vs : List (κ × Value)} (r : KV kvs vs) : kvs.length = vs.length := Paired.length r
end


/-! ### a tracked dict, its keys ints and texts or tuples of these -/
theorem kV_is {P : Program} {w : World} {k : Key} {u : Value} (r : RelV (kV k) u) : (mixKind P w).is k u = true := by
  cases k with
  | inl i => obtain ⟨t, e⟩ := (show ∃ t, u = Value.int i t from r); subst e; exact mixKind_int P w i t
  | inr x => obtain ⟨t, e⟩ := (show ∃ t, u = Value.str x t from r); subst e; exact mixKind_str P w x t
theorem items_are {P : Program} {w : World} : ∀ {ks : List Key} {us : List Value}, Vals (ks.map kV) us → ItemsAre (mixKind P w) ks us
  | [], _, r => by rw [List.map_nil] at r; cases r; exact .nil
  | k :: ks, _, r => by
    rw [List.map_cons] at r
    cases r with
    | cons h t => exact .cons (kV_is h) (items_are t)

/-- raw entries of a dict with tuple keys -/
abbrev KT (H : Hp) : List (List Key × V) → List (List Key × Addr × Value) → Prop := Paired fun p q => p.1 = q.1 ∧ H q.2.1 = some (.tup (p.1.map kV)) ∧ RelV p.2 q.2.2
theorem KT.val {H : Hp} {kvs : List (List Key × V)} {xs : List (List Key × Addr × Value)} (r : KT H kvs xs) (k : List Key) : RelO (valV kvs k) ((atKey xs k).map (·.2)) := by
  induction r with
  | nil => exact True.intro
  | @cons p q ps qs h t ih =>
    obtain ⟨h1, _, h2⟩ := h
    by_cases e : p.1 = k
    · have e' : q.1 = k := h1.symm.trans e
      have b : atKey (q :: qs) k = some q.2 := by simp [atKey, List.find?_cons, e']
      rw [valV_pos e, b]; exact h2
    · have e' : ¬ q.1 = k := fun z => e (h1.trans z)
      have b : atKey (q :: qs) k = atKey qs k := by simp [atKey, List.find?_cons, e']
      rw [valV_neg e, b]; exact ih
theorem KT.repl {H : Hp} {kvs : List (List Key × V)} {xs : List (List Key × Addr × Value)} (r : KT H kvs xs) (k : List Key) {y : V} {u : Value} (ry : RelV y u) :
    KT H (kvs.map fun kv => if kv.1 = k then (kv.1, y) else kv) (xs.map (putAt k u)) := by
  induction r with
  | nil => exact .nil
  | @cons p q ps qs h t ih =>
    rw [List.map_cons, List.map_cons]
    refine .cons ?_ ih
    obtain ⟨h1, h2, h3⟩ := h
    unfold putAt
    by_cases e : p.1 = k
    · rw [if_pos e, if_pos (h1.symm.trans e)]; exact ⟨h1, h2, ry⟩
    · rw [if_neg e, if_neg (fun z => e (h1.trans z))]; exact ⟨h1, h2, h3⟩
theorem KT.put {H : Hp} {kvs : List (List Key × V)} {xs : List (List Key × Addr × Value)} (r : KT H kvs xs) (k : List Key) {b : Addr} {y : V} {u : Value} (hb : H b = some (.tup (k.map kV))) (ry : RelV y u) :
    KT H (putK kvs k y) (storedH xs k b u) := by
  have e : (kvs.any fun kv => decide (kv.1 = k)) = (atKey xs k).isSome := by
    rw [valV_any, (r.val k).isSome_eq, Option.isSome_map]
  unfold putK storedH
  rw [e]
  by_cases q : (atKey xs k).isSome = true
  · rw [if_pos q, if_pos q]; exact r.repl k ry
  · rw [if_neg q, if_neg q]; exact Paired.snoc r ⟨rfl, hb, ry⟩
theorem KT.keeps {H H' : Hp} {kvs : List (List Key × V)} {xs : List (List Key × Addr × Value)} (r : KT H kvs xs) (ht : ∀ b ys, H b = some (.tup ys) → H' b = some (.tup ys)) : KT H' kvs xs :=
  Paired.mapP r fun _ _ z => ⟨z.1, ht _ _ z.2.1, z.2.2⟩

section
variable {P : Program} {w : World} {H : Hp} {h : Heap} {a : Addr}
theorem rd_of {u : HO} (ok : HOk P w H h) (e : Rd H a u) : ObjOk P w H h a u := e.ok ok
theorem dk_rd {kvs : List (Key × V)} (ok : HOk P w H h) (e : Rd H a (.dK kvs)) : kvs.length ≤ sizeLine ∧ (a == sysModules) = false ∧ ∃ vs, KV kvs vs ∧ h.DictOf (mixKind P w) a vs :=
  show ObjOk P w H h a (.dK kvs) from rd_of ok e
theorem dk_of {kvs : List (Key × V)} (ok : HOk P w H h) (e : H a = some (.dK kvs)) : kvs.length ≤ sizeLine ∧ (a == sysModules) = false ∧ ∃ vs, KV kvs vs ∧ h.DictOf (mixKind P w) a vs := dk_rd ok (.inl e)
/-- a tracked tuple of ints and texts is a key -/
theorem key_of {ks : List Key} (ok : HOk P w H h) (e : H a = some (.tup (ks.map kV))) : (tupleKind (mixKind P w)).is h ks a := by
  obtain ⟨_, its, r, o, h1, h2, n, h3⟩ := (show ObjOk P w H h a (.tup (ks.map kV)) from ok a _ e)
  exact ⟨o, its.toArray, n, h1, h2.1, h3, by simpa using items_are r⟩
theorem dt_rd {kvs : List (List Key × V)} (ok : HOk P w H h) (e : Rd H a (.dT kvs)) : kvs.length ≤ sizeLine ∧ (a == sysModules) = false ∧
    ∃ xs, KT H kvs xs ∧ h.DictOfH (tupleKind (mixKind P w)) a xs := by
  obtain ⟨z, y, xs, r, o, es, ep, h1, h2, h3, h4, h5⟩ := (show ObjOk P w H h a (.dT kvs) from rd_of ok e)
  refine ⟨z, y, xs, r, o, es, ep, h1, h2, h3, h4, fun x hx => ?_, h5⟩
  have all : ∀ {l : List (List Key × V)} {m : List (List Key × Addr × Value)}, KT H l m → ∀ x ∈ m, (tupleKind (mixKind P w)).is h x.1 x.2.1 := by
    intro l m q
    induction q with
    | nil => intro x hx; exact nomatch hx
    | @cons p q ps qs hq t ih =>
      intro x hx
      rcases List.mem_cons.mp hx with e | hx
      · subst e
        exact key_of ok (by rw [← hq.1]; exact hq.2.1)
      · exact ih x hx
  exact all r x hx
theorem dt_of {kvs : List (List Key × V)} (ok : HOk P w H h) (e : H a = some (.dT kvs)) : kvs.length ≤ sizeLine ∧ (a == sysModules) = false ∧
    ∃ xs, KT H kvs xs ∧ h.DictOfH (tupleKind (mixKind P w)) a xs := dt_rd ok (.inl e)
end

/-- what the dict at a holds at the key y -/
def DGet (H : Hp) (a : Addr) (y : V) (r : Option V) : Prop :=
  (∃ kvs k, Rd H a (.dK kvs) ∧ y = kV k ∧ r = valV kvs k) ∨ ∃ kvs k b, Rd H a (.dT kvs) ∧ y = .ref b ∧ H b = some (.tup (k.map kV)) ∧ r = valV kvs k
/-- the heap behind a[y] = v -/
def DPut (H : Hp) (a : Addr) (y v : V) (H' : Hp) : Prop :=
  (∃ kvs k, H a = some (.dK kvs) ∧ y = kV k ∧ kvs.length < sizeLine ∧ H' = upd H a (.dK (putK kvs k v))) ∨
  ∃ kvs k b, H a = some (.dT kvs) ∧ y = .ref b ∧ H b = some (.tup (k.map kV)) ∧ kvs.length < sizeLine ∧ H' = upd H a (.dT (putK kvs k v))
theorem DGet.k {H : Hp} {a : Addr} {kvs : List (Key × V)} {k : Key} (e : H a = some (.dK kvs)) : DGet H a (kV k) (valV kvs k) := .inl ⟨kvs, k, .inl e, rfl, rfl⟩
theorem DGet.t {H : Hp} {a b : Addr} {kvs : List (List Key × V)} {k : List Key} (e : H a = some (.dT kvs)) (eb : H b = some (.tup (k.map kV))) : DGet H a (.ref b) (valV kvs k) := .inr ⟨kvs, k, b, .inl e, rfl, eb, rfl⟩
theorem DPut.k {H : Hp} {a : Addr} {kvs : List (Key × V)} {k : Key} {v : V} (e : H a = some (.dK kvs)) (hl : kvs.length < sizeLine) : DPut H a (kV k) v (upd H a (.dK (putK kvs k v))) := .inl ⟨kvs, k, e, rfl, hl, rfl⟩
theorem DPut.t {H : Hp} {a b : Addr} {kvs : List (List Key × V)} {k : List Key} {v : V} (e : H a = some (.dT kvs)) (eb : H b = some (.tup (k.map kV))) (hl : kvs.length < sizeLine) :
    DPut H a (.ref b) v (upd H a (.dT (putK kvs k v))) := .inr ⟨kvs, k, b, e, rfl, eb, hl, rfl⟩


section
variable {X : Cx} {pins : List (Addr × Obj)} {σ : St} {H : Hp} {s : Shared} {a : Addr} {y v : V} {u r : Value} {o : Option V} {A : Around} {E : Value → Shared → Prop}

theorem Inv.big (I : Inv X pins σ H s) : sysModules < s.heap.objs.size := by
  have h : mainGlobals < s.heap.objs.size := (I.mod.glob.keeps I.bk).lt
  exact Nat.lt_trans (by decide) h

/-- y in d -/
theorem d_in {Q : Value → Shared → Prop} (hu : A.units + 1 < cLine) (I : Inv X pins σ H s) (g : DGet H a y o) (ry : RelV y u) (h : ∀ s', Inv X pins σ H s' → Q (.bool o.isSome) s') :
    wpAny (model X.prog X.w) A (compareOp .In u (.ref a)) Q E s := by
  rcases g with ⟨kvs, k, e, ey, l⟩ | ⟨kvs, k, b, e, ey, eb, l⟩
  · subst ey
    obtain ⟨z, hd, vs, rel, dd⟩ := dk_rd I.hok e
    refine wpAny_in_of (kV_is ry) hd dd.mapOf ?_
    rw [← (rel.val k).isSome_eq, ← l]
    exact h _ (I.tok _)
  · subst ey
    cases (show u = Value.ref b from ry)
    obtain ⟨z, hd, xs, rel, dd⟩ := dt_rd I.hok e
    refine wpAny_in_heap (tupleKind_room_in1 hu) (key_of I.hok eb) hd dd ?_
    have q := (rel.val k).isSome_eq
    rw [Option.isSome_map] at q
    rw [← q, ← l]
    exact h _ (I.tok _)
/-- a dict's object is replaced -/
theorem d_write {h' : Heap} {t' : Nat} {ob : HO} (I : Inv X pins σ H s) (mu : Mut (H a)) (hs : Heap.SameBut a s.heap h') (he : ∃ q, h'.get? a = some q) (new : ObjOk X.prog X.w (upd H a ob) h' a ob) :
    Inv X pins σ (upd H a ob) { s with heap := h', toks := t' } :=
  I.write (x := a) (e := a) mu (.inl rfl) (fun b q hb z => (hs.2 b hb).trans z) he new
theorem dk_new {P : Program} {w : World} {H' : Hp} {h' : Heap} {kvs : List (Key × V)} {vs : List (Key × Value)} (z : kvs.length ≤ sizeLine) (hd : (a == sysModules) = false) (rel : KV kvs vs) (dd : h'.DictOf (mixKind P w) a vs) :
    ObjOk P w H' h' a (.dK kvs) := ⟨z, hd, vs, rel, dd⟩
/-- d[y] = v -/
theorem d_setItem {H' : Hp} {Q : Unit → Shared → Prop} (hu : A.units + 1 < cLine) (I : Inv X pins σ H s) (g : DPut H a y v H') (ry : RelV y u) (rv : RelV v r) (h : ∀ s', Inv X pins σ H' s' → Q () s') :
    wpAny (model X.prog X.w) A (setItem (.ref a) u r) Q E s := by
  rcases g with ⟨kvs, k, e, ey, l, eH⟩ | ⟨kvs, k, b, e, ey, eb, l, eH⟩
  · subst ey eH
    obtain ⟨z, hd, vs, rel, dd⟩ := dk_of I.hok e
    have hz : vs.length ≤ sizeLine := by rw [← rel.length]; exact z
    have hl : (putK kvs k v).length ≤ sizeLine := by have := length_putK kvs k v; omega
    refine wpAny_setItem_pairs (hsz := hz) (kV_is ry) dd fun h' dd' hs => h _ ?_
    have he : ∃ q, h'.get? a = some q := let ⟨q, _, _, hq, _⟩ := dd'; ⟨q, hq⟩
    exact d_write I (by rw [e]; exact True.intro) hs he (dk_new hl hd (rel.put k rv) dd')
  · subst ey eH
    cases (show u = Value.ref b from ry)
    obtain ⟨z, hd, xs, rel, dd⟩ := dt_of I.hok e
    have hz : xs.length ≤ sizeLine := by rw [← Paired.length rel]; exact z
    have hl : (putK kvs k v).length ≤ sizeLine := by have := length_putK kvs k v; omega
    refine wpAny_setItem_heap (hsz := hz) (tupleKind_room_in1 hu) (key_of I.hok eb) dd fun h' dd' hs => h _ ?_
    obtain ⟨q, es, ep, hq, h2, h3, h4, _, h5⟩ := dd'
    refine d_write I (by rw [e]; exact True.intro) hs ⟨q, hq⟩ ⟨hl, hd, _, (rel.put k eb rv).keeps fun c ys ec => ?_, q, es, ep, hq, h2, h3, h4, h5⟩
    rw [upd_ne (ne_of ec e (fun z => nomatch z))]
    exact ec
end

section
variable {X : Cx} {pins : List (Addr × Obj)} {σ : St} {H : Hp} {s : Shared} {a : Addr} {kvs : List (Key × V)} {k : Key} {u : Value} {A : Around} {E : Value → Shared → Prop}
end


/-! ### readings and rules -/


/-- y in d, y not in d -/
def tDIn (ty td : TE) : TE := fun σ H Q => ty σ H fun y H1 => td σ H1 fun x H2 => ∃ a o, x = .ref a ∧ DGet H2 a y o ∧ Q (.bl o.isSome) H2
/-- d[y] = v -/
def sDPut (td ty tv : TE) : TS := fun D σ H => tv σ H fun v H1 => td σ H1 fun x H2 => ty σ H2 fun y H3 => ∃ a H4, x = .ref a ∧ DPut H3 a y v H4 ∧ D.nx σ H4

section
variable {X : Cx} {o i e value : Expr} {pos pos' tpos : Pos} {td ty tv : TE}
theorem pc_din (hu : X.A.units + 1 < cLine) (hi : PE X i ty) (ho : PE X o td) : PC X .In i o (tDIn ty td) := by
  intro pins s σ H Q I h
  refine thn (hi pins s σ H _ I h) fun iv s1 ⟨y, H1, I1, ry, q1⟩ => thn (ho pins s1 σ H1 _ I1 q1) fun u s2 ⟨x, H2, I2, rx, a, ov, ex, g, q2⟩ => ?_
  subst ex
  obtain rfl : u = Value.ref a := rx
  exact d_in hu I2 g ry fun s3 I3 => ⟨.bl ov.isSome, H2, I3, rfl, q2⟩
theorem ps_dput (hu : X.A.units + 1 < cLine) (ho : PE X o td) (hi : PE X i ty) (hv : PE X value tv) (hs : swapsWith value (some (.Subscript o i pos')) pos.line X.env = pure false) :
    PS X (.Assign [.Subscript o i pos'] value pos) (sDPut td ty tv) := by
  intro pins s σ H D I h
  refine wpAny_Assign_Subscript (thn (hv pins s σ H _ I h) fun r s1 ⟨v, H1, I1, rv, q1⟩ => thn (ho pins s1 σ H1 _ I1 q1) fun u s2 ⟨x, H2, I2, rx, q2⟩ => thn (hi pins s2 σ H2 _ I2 q2) fun iv s3 ⟨y, H3, I3, ry, a, H4, ex, g, q3⟩ => ?_) hs
  subst ex
  obtain rfl : u = Value.ref a := rx
  exact d_setItem hu I3 g ry rv fun s4 I4 => ⟨σ, H4, I4, q3⟩
end


/-! ### displays -/
theorem dk_empty {P : Program} {w : World} {H : Hp} (h : Heap) (hb : sysModules < h.objs.size) : ObjOk P w H (h.push { cls := .type "dict", data := .dict #[] }) h.objs.size (.dK []) :=
  ⟨Nat.zero_le _, beq_eq_false_iff_ne.mpr (Ne.symm (Nat.ne_of_lt hb)), [], .nil, Heap.DictOf.new h⟩
/-- {}, to be a dict of the kind that is wanted -/
def tDNewK : TE := fun _ H Q => ∀ p, H p = none → Q (.ref p) (upd H p (.dK []))
section
variable {X : Cx} {pos : Pos}
theorem pe_dnewK : PE X (.Dict [] [] pos) tDNewK := fun pins s σ H Q I h =>
  wpAny_Dict_empty ⟨.ref s.heap.objs.size, _, I.laid (a := s.heap.objs.size) (o := .dK []) (t' := s.toks) (fun _ _ q => Heap.get?_push_of_some _ q) (Nat.le_refl _) (dk_empty s.heap I.big), rfl, h _ (I.hok.fresh (Nat.le_refl _))⟩
end




/-! ### methods -/
/-- a method call o.m(e) of a built-in, with one argument: what must be seen of the text -/
structure M1 (X : Cx) (o : Expr) (m : Str) (apos : Pos) (e : Expr) (cpos : Pos) : Prop where
  base : attributeBase o m X.env (eval o X.env) = eval o X.env
  few : ((backTo cpos (starEach [e] X.env)).all (fun x => !x.1) && (backToKw cpos (keywordEach [] X.env)).all (fun x => x.1.isSome)
    && decide (([e] : List Expr).length + ([] : List Keyword).length + (if ([] : List Keyword).isEmpty then 0 else 1) < 30)) = true
  line : (apos.endLine == cpos.line) = true
  trees : backTo cpos (starEach [e] X.env) = [(false, eval e X.env)]
structure M2 (X : Cx) (o : Expr) (m : Str) (apos : Pos) (e f : Expr) (cpos : Pos) : Prop where
  base : attributeBase o m X.env (eval o X.env) = eval o X.env
  few : ((backTo cpos (starEach [e, f] X.env)).all (fun x => !x.1) && (backToKw cpos (keywordEach [] X.env)).all (fun x => x.1.isSome)
    && decide (([e, f] : List Expr).length + ([] : List Keyword).length + (if ([] : List Keyword).isEmpty then 0 else 1) < 30)) = true
  line : (apos.endLine == cpos.line) = true
  trees : backTo cpos (starEach [e, f] X.env) = [(false, eval e X.env), (false, eval f X.env)]


section
variable {X : Cx} {pins : List (Addr × Obj)} {σ : St} {H : Hp} {s : Shared} {a : Addr} {y d : V} {u r : Value} {o : Option V} {A : Around} {E : Value → Shared → Prop}
end

section
variable {X : Cx} {o e f : Expr} {apos cpos : Pos} {td ty tx : TE}
end

/-! ### dict(d): a copy -/
section
variable {X : Cx} {pins : List (Addr × Obj)} {σ : St} {H : Hp} {s : Shared} {a : Addr} {kvs : List (Key × V)} {A : Around} {E : Value → Shared → Prop}
end


section
variable {X : Cx} {pins : List (Addr × Obj)} {σ : St} {H : Hp} {s : Shared} {a : Addr} {y : V} {u : Value} {A : Around} {E : Value → Shared → Prop}
end
end L2

/-! ### E1: list comprehensions over the hand layer -/
namespace L2
open PySem PySem.Spec PyProof.Rows

/-- the cells that a comprehension's block takes from around -/
def closL (cells : List (Str × Addr)) : List (Str × NameKind) → List (Str × Addr) → List (Str × Addr)
  | [], acc => acc
  | (n, k) :: r, acc => if k == .free then closL cells r ((n, (cells.lookup n).getD 0) :: acc) else closL cells r acc

theorem closL_forIn {env : Env} (f : Str × NameKind → List (Str × Addr) → Sem (ForInStep (List (Str × Addr))))
    (hf : ∀ n k cs, f (n, k) cs = if k == .free then (do let a ← cellOf env n; pure (.yield ((n, a) :: cs))) else pure (.yield cs)) :
    ∀ (names : List (Str × NameKind)) (acc : List (Str × Addr)), (∀ n, (n, NameKind.free) ∈ names → ∃ c, env.cells.lookup n = some c) → forIn names acc f = pure (closL env.cells names acc)
  | [], acc, _ => by rw [List.forIn_nil]; rfl
  | (n, k) :: r, acc, h => by
    have hr := closL_forIn f hf r
    rw [List.forIn_cons, hf]
    unfold closL
    by_cases hk : (k == NameKind.free) = true
    · rw [if_pos hk, if_pos hk]
      have ek : k = .free := eq_of_beq hk
      subst ek
      obtain ⟨c, e⟩ := h n List.mem_cons_self
      have e1 : cellOf env n = pure c := by unfold cellOf; rw [e]
      rw [e1, e]
      exact hr _ fun m hm => h m (List.mem_cons_of_mem _ hm)
    · rw [if_neg hk, if_neg hk]
      exact hr _ fun m hm => h m (List.mem_cons_of_mem _ hm)

theorem closureFor_closL {scope : Scope} {env : Env} (h : ∀ n, (n, NameKind.free) ∈ scope.names → ∃ c, env.cells.lookup n = some c) : closureFor scope env = pure (closL env.cells scope.names []) := by
  simp only [closureFor]
  rw [closL_forIn _ (fun n k cs => by cases hkc : k == NameKind.free <;> simp [hkc]) scope.names [] h]
  rfl

theorem closL_mem {cells : List (Str × Addr)} : ∀ (names : List (Str × NameKind)) (acc : List (Str × Addr)) {x : Str} {c : Addr}, (x, c) ∈ closL cells names acc → (x, c) ∈ acc ∨ ((x, NameKind.free) ∈ names ∧ c = (cells.lookup x).getD 0)
  | [], _, _, _, h => .inl h
  | (n, k) :: r, acc, x, c, h => by
    unfold closL at h
    by_cases hk : (k == NameKind.free) = true
    · rw [if_pos hk] at h
      have ek : k = .free := eq_of_beq hk
      subst ek
      rcases closL_mem r _ h with z | ⟨z1, z2⟩
      · rcases List.mem_cons.mp z with q | q
        · cases q
          exact .inr ⟨List.mem_cons_self, rfl⟩
        · exact .inl q
      · exact .inr ⟨List.mem_cons_of_mem _ z1, z2⟩
    · rw [if_neg hk] at h
      rcases closL_mem r _ h with z | ⟨z1, z2⟩
      · exact .inl z
      · exact .inr ⟨List.mem_cons_of_mem _ z1, z2⟩

theorem lookup_some_of_mem {α : Type} {x : Str} {c : α} : ∀ {l : List (Str × α)}, (x, c) ∈ l → (l.lookup x).isSome = true
  | (n, d) :: r, h => by
    rw [List.lookup_cons]
    cases hb : x == n with
    | true => rfl
    | false =>
      rcases List.mem_cons.mp h with q | q
      · cases q
        simp at hb
      · exact lookup_some_of_mem q

theorem closL_has {cells : List (Str × Addr)} {x : Str} : ∀ (names : List (Str × NameKind)) (acc : List (Str × Addr)), (x, NameKind.free) ∈ names ∨ (∃ c, (x, c) ∈ acc) → ∃ c, (x, c) ∈ closL cells names acc
  | [], _, h => h.elim (fun z => nomatch z) id
  | (n, k) :: r, acc, h => by
    unfold closL
    by_cases hk : (k == NameKind.free) = true
    · rw [if_pos hk]
      refine closL_has r _ ?_
      rcases h with z | ⟨c, z⟩
      · rcases List.mem_cons.mp z with q | q
        · cases q
          exact .inr ⟨_, List.mem_cons_self⟩
        · exact .inl q
      · exact .inr ⟨c, List.mem_cons_of_mem _ z⟩
    · rw [if_neg hk]
      refine closL_has r _ ?_
      rcases h with z | z
      · rcases List.mem_cons.mp z with q | q
        · cases q
          exact absurd (by rfl) hk
        · exact .inl q
      · exact .inr z

theorem cellsFrom_mem : ∀ (names : List (Str × NameKind)) (h : Heap) (acc : List (Str × Addr)) {x : Str} {c : Addr}, (x, c) ∈ cellsFrom h.objs.size names acc →
    (x, c) ∈ acc ∨ ((x, NameKind.cell) ∈ names ∧ h.objs.size ≤ c ∧ (pushCells h names).IsCell c none)
  | [], _, _, _, _, hm => .inl hm
  | (n, k) :: r, h, acc, x, c, hm => by
    unfold cellsFrom at hm
    unfold pushCells
    by_cases hk : (k == NameKind.cell) = true
    · rw [if_pos hk] at hm
      rw [if_pos hk]
      have ek : k = .cell := eq_of_beq hk
      subst ek
      have e : (h.push { cls := .type "cell", data := .cell none }).objs.size = h.objs.size + 1 := Heap.size_push ..
      rw [← e] at hm
      rcases cellsFrom_mem r _ _ hm with z | ⟨z1, z2, z3⟩
      · rcases List.mem_cons.mp z with q | q
        · cases q
          exact .inr ⟨List.mem_cons_self, Nat.le_refl _, ⟨_, pushCells_keeps r _ _ _ (Heap.get?_push_size _ rfl), rfl⟩⟩
        · exact .inl q
      · exact .inr ⟨List.mem_cons_of_mem _ z1, by omega, z3⟩
    · rw [if_neg hk] at hm
      rw [if_neg hk]
      rcases cellsFrom_mem r h acc hm with z | ⟨z1, z2, z3⟩
      · exact .inl z
      · exact .inr ⟨List.mem_cons_of_mem _ z1, z2, z3⟩

theorem cellsFrom_has {x : Str} : ∀ (names : List (Str × NameKind)) (n : Nat) (acc : List (Str × Addr)), (x, NameKind.cell) ∈ names ∨ (∃ c, (x, c) ∈ acc) → ∃ c, (x, c) ∈ cellsFrom n names acc
  | [], _, _, h => h.elim (fun z => nomatch z) id
  | (y, k) :: r, n, acc, h => by
    unfold cellsFrom
    by_cases hk : (k == NameKind.cell) = true
    · rw [if_pos hk]
      refine cellsFrom_has r _ _ ?_
      rcases h with z | ⟨c, z⟩
      · rcases List.mem_cons.mp z with q | q
        · cases q
          exact .inr ⟨_, List.mem_cons_self⟩
        · exact .inl q
      · exact .inr ⟨c, List.mem_cons_of_mem _ z⟩
    · rw [if_neg hk]
      refine cellsFrom_has r _ _ ?_
      rcases h with z | z
      · rcases List.mem_cons.mp z with q | q
        · cases q
          exact absurd (by rfl) hk
        · exact .inl q
      · exact .inr z

theorem cellsFrom_inj (lo : Nat) : ∀ (names : List (Str × NameKind)) (n : Nat) (acc : List (Str × Addr)), (∀ x y c, (x, c) ∈ acc → (y, c) ∈ acc → lo ≤ c → x = y) → (∀ p ∈ acc, p.2 < n) →
    ∀ x y c, (x, c) ∈ cellsFrom n names acc → (y, c) ∈ cellsFrom n names acc → lo ≤ c → x = y
  | [], _, _, h, _ => h
  | (m, k) :: r, n, acc, h, hb => by
    unfold cellsFrom
    by_cases hk : (k == NameKind.cell) = true
    · rw [if_pos hk]
      refine cellsFrom_inj lo r (n + 1) ((m, n) :: acc) (fun x y c hx hy hc => ?_) fun p hp => ?_
      · rcases List.mem_cons.mp hx with q | q <;> rcases List.mem_cons.mp hy with q' | q'
        · cases q; cases q'; rfl
        · cases q
          exact absurd (hb _ q') (Nat.lt_irrefl _)
        · cases q'
          exact absurd (hb _ q) (Nat.lt_irrefl _)
        · exact h x y c q q' hc
      · rcases List.mem_cons.mp hp with q | q
        · cases q; exact Nat.lt_succ_self _
        · exact Nat.lt_succ_of_lt (hb p q)
    · rw [if_neg hk]
      exact cellsFrom_inj lo r n acc h hb

/-- a name's kind within the block -/
theorem lookup_relabel (env : Env) (x : Str) : ∀ names : List (Str × NameKind),
    (names.map fun (n, k) => if (k == NameKind.free && env.scope.kind == .function && env.kindOf n == some .cell) then (n, NameKind.cell) else (n, k)).lookup x =
      (names.lookup x).map fun k => if (k == NameKind.free && env.scope.kind == .function && env.kindOf x == some .cell) then NameKind.cell else k
  | [] => rfl
  | (n, k) :: r => by
    have ih := lookup_relabel env x r
    show List.lookup x ((if (k == NameKind.free && env.scope.kind == .function && env.kindOf n == some .cell) = true then (n, NameKind.cell) else (n, k)) :: _) = _
    cases hx : x == n with
    | true =>
      have e := eq_of_beq hx
      subst e
      by_cases hc : (k == NameKind.free && env.scope.kind == .function && env.kindOf x == some .cell) = true
      · rw [if_pos hc]
        simp only [List.lookup_cons, beq_self_eq_true, Option.map_some, hc, if_true]
      · rw [if_neg hc]
        simp only [List.lookup_cons, beq_self_eq_true, Option.map_some]
        rw [if_neg hc]
    | false =>
      by_cases hc : (k == NameKind.free && env.scope.kind == .function && env.kindOf n == some .cell) = true
      · rw [if_pos hc]; simp only [List.lookup_cons, hx]; exact ih
      · rw [if_neg hc]; simp only [List.lookup_cons, hx]; exact ih

theorem wpAny_newFunctionEnv_comp {M : Model} {A : Around} {E : Value → Shared → Prop} {s : Shared} {scope : Scope} {globals : Addr} {closure : List (Str × Addr)} {qual : Str} {env : Env} {Q : Env → Shared → Prop}
    (hQ : Q (newEnv scope s.heap.objs.size globals (cellsFrom (s.heap.objs.size + 1) scope.names closure) qual none .none (some env) builtinsNs)
      { s with heap := pushCells (s.heap.push { cls := .type "dict", data := .dict #[] }) scope.names }) :
    wpAny M A (newFunctionEnv scope globals closure [] qual none .none (some env)) Q E s := by
  simp only [newFunctionEnv, Option.isSome_some, if_true]
  refine wpAny_bind (wpAny_alloc ?_)
  refine wpAny_bind (wpAny_layCells _ (fun name kind cells => by cases hkc : kind == NameKind.cell <;> simp [hkc]) _ _ _ _ ?_)
  rw [show ({ s with heap := s.heap.push { cls := .type "dict", data := .dict #[] } } : Shared).heap.objs.size = s.heap.objs.size + 1 from Heap.size_push ..]
  refine wpAny_bind ?_
  rw [List.forIn_nil]
  exact wpAny_pure (wpAny_pure hQ)

/-! ### the block's context -/
/-- which names of around are taken; each slot of around is taken under its own name, or not seen -/
def capOk (out names : List (Str × NameKind)) : Bool := names.all fun p => !(decide (p.2 = NameKind.free)) || (decide (out.lookup p.1 = some NameKind.cell) || decide (out.lookup p.1 = some NameKind.free))
def nmOk (N N' : List Str) (names : List (Str × NameKind)) : Bool := (List.range N.length).all fun i => match N'[i]? with
  | some y => decide (names.lookup y = none) || (decide (names.lookup y = some NameKind.free) && decide (N[i]? = some y))
  | none => false
structure CompScope (N : List Str) (out : List (Str × NameKind)) (N' : List Str) (k : Nat) (sc : Scope) : Prop where
  kind : sc.kind = .function
  len : N'.length = N.length + k
  cap : capOk out sc.names = true
  nm : nmOk N N' sc.names = true
  uniq : sc.names.all (fun p => decide (sc.names.lookup p.1 = some p.2)) = true

def cxComp (X : Cx) (N' : List Str) (sc : Scope) (s : Shared) (H : Hp) (fp : List Addr) (pins : List (Addr × Obj)) (E : Value → Shared → Prop) : Cx where
  prog := X.prog
  w := X.w
  K := X.K
  mg := X.mg
  base := X.base
  A := X.A
  N := N'
  s₀ := s
  H₀ := H
  env := compEnvC sc (cellsFrom (s.heap.objs.size + 1) sc.names (closL X.env.cells sc.names [])) s.heap.objs.size X.env
  outer := X.stack
  stack := X.stack
  ex := fp
  fn := fun x => decide (sc.names.lookup x = some .cell)
  calm := X.calm
  pn := X.pn ++ pins
  xe := E

section
variable {X : Cx} {N' : List Str} {k : Nat} {sc : Scope} {pins : List (Addr × Obj)} {σ : St} {H : Hp} {s : Shared} {fp : List Addr} {E : Value → Shared → Prop}

theorem CompScope.fr (S : CompScope X.N X.env.scope.names N' k sc) {x : Str} (h : (x, NameKind.free) ∈ sc.names) : X.env.kindOf x = some .cell ∨ X.env.kindOf x = some .free := by
  have q := List.all_eq_true.mp S.cap _ h
  simp at q
  exact q
theorem CompScope.look {N : List Str} {out : List (Str × NameKind)} (S : CompScope N out N' k sc) {x : Str} {kd : NameKind} (h : (x, kd) ∈ sc.names) : sc.names.lookup x = some kd := by
  have q := List.all_eq_true.mp S.uniq _ h
  exact of_decide_eq_true q

theorem comp_inv (S : CompScope X.N X.env.scope.names N' k sc) (I : Inv X pins σ H s) (hf : ∀ b ∈ fp, FpOk X pins H b) (hlt : ∀ b ∈ fp, b < s.heap.objs.size) :
    Inv (cxComp X N' sc s H fp pins E) [] (σ ++ List.replicate k none) H { s with heap := pushCells (s.heap.push { cls := .type "dict", data := .dict #[] }) sc.names } := by
  have keeps : ∀ b o, s.heap.get? b = some o → (pushCells (s.heap.push { cls := .type "dict", data := .dict #[] }) sc.names).get? b = some o := fun b o e => pushCells_keeps _ _ _ _ (Heap.get?_push_of_some _ e)
  have hsz : (s.heap.push { cls := .type "dict", data := .dict #[] }).objs.size = s.heap.objs.size + 1 := Heap.size_push ..
  have hns : (pushCells (s.heap.push { cls := .type "dict", data := .dict #[] }) sc.names).Ns s.heap.objs.size (fun _ => none) := (Heap.Ns.new s.heap (.type "dict")).keeps (pushCells_keeps _ _)
  have frc : ∀ x, (x, NameKind.free) ∈ sc.names → ∃ c, X.env.cells.lookup x = some c := fun x h => I.ok.has x (S.fr h)
  -- what a cell of the block is
  have cm : ∀ x c, (x, c) ∈ cellsFrom (s.heap.objs.size + 1) sc.names (closL X.env.cells sc.names []) →
      ((x, NameKind.cell) ∈ sc.names ∧ s.heap.objs.size + 1 ≤ c ∧ (pushCells (s.heap.push { cls := .type "dict", data := .dict #[] }) sc.names).IsCell c none) ∨ ((x, NameKind.free) ∈ sc.names ∧ X.env.cells.lookup x = some c) := fun x c h => by
    rw [← hsz] at h
    rcases cellsFrom_mem _ _ _ h with z | ⟨z1, z2, z3⟩
    · rcases closL_mem _ _ z with z | ⟨z1, z2⟩
      · exact nomatch z
      · obtain ⟨c', e⟩ := frc x z1
        rw [e] at z2
        cases z2
        exact .inr ⟨z1, e⟩
    · exact .inl ⟨z1, by omega, z3⟩
  have cl : ∀ x c, (cellsFrom (s.heap.objs.size + 1) sc.names (closL X.env.cells sc.names [])).lookup x = some c → (x, c) ∈ cellsFrom (s.heap.objs.size + 1) sc.names (closL X.env.cells sc.names []) := fun x c h => PySem.mem_of_lookup h
  have clt : ∀ x c, X.env.cells.lookup x = some c → c < s.heap.objs.size := fun x c h => by
    obtain ⟨v, q⟩ := I.cell x c h
    exact q.lt
  have has : ∀ x, (x, NameKind.cell) ∈ sc.names ∨ (x, NameKind.free) ∈ sc.names → ∃ c, (cellsFrom (s.heap.objs.size + 1) sc.names (closL X.env.cells sc.names [])).lookup x = some c := fun x h => by
    obtain ⟨c, hc⟩ := cellsFrom_has (x := x) sc.names (s.heap.objs.size + 1) (closL X.env.cells sc.names []) (h.imp id fun z => closL_has _ _ (.inl z))
    exact Option.isSome_iff_exists.mp (lookup_some_of_mem hc)
  have kd : ∀ x kk, (relabel sc X.env).names.lookup x = some kk → ∃ k0, sc.names.lookup x = some k0 ∧ (kk = k0 ∨ (k0 = .free ∧ kk = .cell)) := fun x kk h => by
    have q := lookup_relabel X.env x sc.names
    have h' : (sc.names.map fun (n, k) => if (k == NameKind.free && X.env.scope.kind == .function && X.env.kindOf n == some .cell) then (n, NameKind.cell) else (n, k)).lookup x = some kk := h
    rw [q] at h'
    cases e : sc.names.lookup x with
    | none => rw [e] at h'; cases h'
    | some k0 =>
      rw [e] at h'
      simp only [Option.map_some, Option.some.injEq] at h'
      refine ⟨k0, rfl, ?_⟩
      split at h'
      · rename_i hc
        simp at hc
        exact .inr ⟨hc.1.1, h'.symm⟩
      · exact .inl h'.symm
  refine ⟨⟨I.ok.mod, S.kind, I.ok.glob, I.ok.blt, Nat.le_refl _, ?inj, ?has, ?cab, I.ok.hd, I.ok.frames, .inl rfl, ?exf, I.bs, Nat.le_trans I.ok.bsz I.sz, ?noex, ?exfs, I.stack, I.stkFree⟩,
    rfl, I.bare, Un.kept keeps, ⟨_, hns, ?loc⟩, ?cell, I.hok.fresh (Nat.le_refl _), ?freeC, ?pin, I.hok.kept keeps, ?len⟩
  case inj =>
    intro x y c h1 h2
    rcases cm x c (cl x c h1) with ⟨_, l1, _⟩ | ⟨m1, e1⟩
    · rcases cm y c (cl y c h2) with ⟨_, l2, _⟩ | ⟨m2, e2⟩
      · refine cellsFrom_inj (s.heap.objs.size + 1) sc.names (s.heap.objs.size + 1) (closL X.env.cells sc.names []) (fun x y c hx _ hc => ?_) (fun p hp => ?_) x y c (cl x c h1) (cl y c h2) l1
        · rcases closL_mem _ _ hx with z | ⟨z1, z2⟩
          · exact nomatch z
          · obtain ⟨c', e⟩ := frc x z1
            rw [e] at z2
            have z3 : c = c' := z2
            subst z3
            exact absurd (clt x c e) (Nat.not_lt.mpr (Nat.le_of_succ_le hc))
        · obtain ⟨x, c⟩ := p
          rcases closL_mem _ _ hp with z | ⟨z1, z2⟩
          · exact nomatch z
          · obtain ⟨c', e⟩ := frc x z1
            rw [e] at z2
            have z3 : c = c' := z2
            subst z3
            exact Nat.lt_succ_of_lt (clt x c e)
      · exact absurd (clt y c e2) (Nat.not_lt.mpr (Nat.le_of_succ_le l1))
    · rcases cm y c (cl y c h2) with ⟨_, l2, _⟩ | ⟨m2, e2⟩
      · exact absurd (clt x c e1) (Nat.not_lt.mpr (Nat.le_of_succ_le l2))
      · exact I.ok.inj x y c e1 e2
  case has =>
    intro x hx
    refine has x ?_
    rcases hx with hx | hx
    · obtain ⟨k0, e, h⟩ := kd x _ hx
      rcases h with h | ⟨h, _⟩
      · subst h; exact .inl (PySem.mem_of_lookup e)
      · subst h; exact .inr (PySem.mem_of_lookup e)
    · obtain ⟨k0, e, h⟩ := kd x _ hx
      rcases h with h | ⟨_, h⟩
      · subst h; exact .inr (PySem.mem_of_lookup e)
      · cases h
  case cab =>
    intro x c hfn h
    have hfn' : sc.names.lookup x = some NameKind.cell := of_decide_eq_true hfn
    rcases cm x c (cl x c h) with ⟨_, l, _⟩ | ⟨m, _⟩
    · exact Nat.le_of_succ_le l
    · rw [S.look m] at hfn'; cases hfn'
  case exf =>
    intro b hb
    refine ⟨Nat.ne_of_lt (hlt b hb), fun x c h => ?_⟩
    rcases cm x c (cl x c h) with ⟨_, l, _⟩ | ⟨_, e⟩
    · intro z
      subst z
      exact absurd (hlt c hb) (Nat.not_lt.mpr (Nat.le_of_succ_le l))
    · exact (hf b hb).2.2.2.2.1 x c e
  case noex =>
    intro b o e hb
    rcases (hf b hb).2.2.2.1 with z | z
    · exact I.ok.noex b o e z
    · exact absurd (Nat.lt_of_lt_of_le (Heap.lt_size e) (Nat.le_trans I.ok.bsz z)) (Nat.lt_irrefl _)
  case exfs => exact fun b hb z => (List.mem_cons.mp (I.stkSub b z)).elim (hf b hb).2.1 (hf b hb).2.2.1
  case loc =>
    intro i y v h1 h2 h3
    have hl := I.len
    by_cases hi : i < σ.length
    · rw [List.getElem?_append_left hi] at h2
      have q := List.all_eq_true.mp S.nm i (List.mem_range.mpr (by omega))
      have h1' : N'[i]? = some y := h1
      simp only [h1', Bool.or_eq_true, Bool.and_eq_true, decide_eq_true_eq] at q
      rcases q with q | ⟨q1, q2⟩
      · exfalso
        rcases h3 with z | z | z <;> (obtain ⟨k0, e, _⟩ := kd y _ z; rw [q] at e; cases e)
      · have hm := PySem.mem_of_lookup q1
        obtain ⟨m, hn, hloc⟩ := I.loc
        have kk := S.fr hm
        obtain ⟨u, r, l⟩ := hloc i y v q2 h2 (kk.elim (fun z => .inr (.inl z)) fun z => .inr (.inr z))
        refine ⟨u, r, .inr ⟨?_, ?_⟩⟩
        · rcases h3 with z | z | z
          · obtain ⟨k0, e, h⟩ := kd y _ z
            rw [q1] at e
            cases e
            rcases h with h | ⟨_, h⟩ <;> cases h
          · exact .inl z
          · exact .inr z
        · rcases l with ⟨l, _⟩ | ⟨_, c, ec, hc⟩
          · rcases kk with z | z <;> (rw [z] at l; cases l)
          · obtain ⟨c', e'⟩ := has y (.inr hm)
            refine ⟨c', e', ?_⟩
            rcases cm y c' (cl y c' e') with ⟨m', _⟩ | ⟨_, e2⟩
            · have := S.look m'
              rw [q1] at this
              cases this
            · rw [ec] at e2
              cases e2
              exact hc.keeps keeps
    · rw [List.getElem?_append_right (by omega), List.getElem?_replicate] at h2
      split at h2 <;> cases h2
  case cell =>
    intro x c h
    rcases cm x c (cl x c h) with ⟨_, _, q⟩ | ⟨_, e⟩
    · exact ⟨_, q⟩
    · obtain ⟨v, q⟩ := I.cell x c e
      exact ⟨v, q.keeps keeps⟩
  case freeC =>
    intro x c h
    rcases cm x c (cl x c h) with ⟨_, l, _⟩ | ⟨_, e⟩
    · exact I.hok.fresh (Nat.le_of_succ_le l)
    · exact I.freeC x c e
  case pin =>
    intro p hp
    have hp' : p ∈ X.pn ++ pins := by
      rcases List.mem_append.mp hp with z | z
      · exact z
      · exact nomatch z
    obtain ⟨e, n, ne, nf, d⟩ := I.pin p hp'
    exact ⟨keeps _ _ e, n, Nat.ne_of_lt (Heap.lt_size e), fun z => (List.mem_cons.mp (I.stkSub p.1 z)).elim ne nf, d⟩
  case len =>
    show _ = N'.length
    rw [List.length_append, List.length_replicate, S.len, I.len]

/-- behind the block -/
theorem comp_exit {σ' : St} {H' : Hp} {s' : Shared} (I : Inv X pins σ H s) (hf : ∀ b ∈ fp, FpOk X pins H b) (J : Inv (cxComp X N' sc s H fp pins E) [] σ' H' s') : Inv X pins σ H' s' :=
  I.call' J.os J.base J.hok J.bare fun b hb => ⟨(hf b hb).2.2.2.1, (hf b hb).2.1, (hf b hb).2.2.2.2.1, (hf b hb).2.2.2.2.2⟩
/-- the block's names are let go -/
theorem comp_gone {H' : Hp} {s' : Shared} {h' : Heap} (I : Inv X pins σ H s) (J : Inv X pins σ H' s') (hn : H' s.heap.objs.size = none) (hb : Heap.SameBut s.heap.objs.size s'.heap h') : Inv X pins σ H' { s' with heap := h' } := by
  refine J.turned (t' := s'.toks) (it := s.heap.objs.size) (fun b o hne e => (hb.2 b hne).trans e) hn (Nat.ne_of_gt I.lt) (.inr I.sz) (fun x c e => ?_) fun p hp => ?_
  · obtain ⟨v, q⟩ := I.cell x c e
    exact Nat.ne_of_lt q.lt
  · exact Nat.ne_of_lt (Heap.lt_size (I.pin p hp).1)
end

/-! ### the loop -/
theorem compLoop_any {prog : Program} {w : World} {A : Around} {R : Result → Shared → Prop} {s : Shared} {elt target iter : Expr} {ifs : List Expr} {scope : Scope} {pos : Pos} {it acc : Value} {env : Env} (I : Nat → Shared → Prop)
    (turn : ∀ n s, I n s → wpAny (model prog w) A (pyNext it) (fun r s₁ => match r with
      | none => R (.ok .next) s₁
      | some v => wpAny (model prog w) A (letOwnedTupleGo target it v) (fun _ s₁' => wpAny (model prog w) A (assign target env v) (fun _ s₂ =>
          wpAny (model prog w) A (forIn ifs true fun c r => if r = true then do let ok ← isTrue c env (eval c env); pure (ForInStep.yield ok) else pure (ForInStep.yield r)) (fun ok s₃ =>
            if ok = true then wpAny (model prog w) A (eval elt env) (fun x s₄ =>
              wpAny (model prog w) A (call (.builtin "list.append") [acc, x]) (fun _ s₅ => ∃ m, m < n ∧ I m s₅) (notedBy (model prog w) A env fun e s' => R (.error e) s') s₄) (notedBy (model prog w) A env fun e s' => R (.error e) s') s₃
            else ∃ m, m < n ∧ I m s₃) (notedBy (model prog w) A env fun e s' => R (.error e) s') s₂) (notedBy (model prog w) A env fun e s' => R (.error e) s') s₁') (notedBy (model prog w) A env fun e s' => R (.error e) s') s₁) (notedBy (model prog w) A env fun e s' => R (.error e) s') s)
    (n : Nat) (h : I n s) :
    codeAny (model prog w) A (.compLoop (.ListComp elt [⟨target, iter, ifs, 0⟩] scope pos) 0 it acc env) R s := by
  refine codeAny_loop rfl I (fun n s hI => ?_) n h
  show wpAny _ A ((compTurn (.ListComp elt [⟨target, iter, ifs, 0⟩] scope pos) 0 it acc env).onRaise (fun x => do noteFrame x env; theTreesLotGoes x)) _ _ s
  refine wpAny_noted ?_
  rw [compTurn_list]
  refine wpAny_bind (wpAny_standAt (wpAny_bind (wpAny_mono (turn n s hI) (fun r s₁ h₁ => ?_) fun _ _ h' => h')))
  cases r with
  | none => exact wpAny_pure h₁
  | some v =>
    refine wpAny_bind (wpAny_mono h₁ (fun _ s₁' h₁' => ?_) fun _ _ h' => h')
    refine wpAny_bind (wpAny_mono h₁' (fun _ s₂ h₂ => wpAny_bind (wpAny_mono h₂ (fun ok s₃ h₃ => ?_) fun _ _ h' => h')) fun _ _ h' => h')
    cases ok with
    | false => exact wpAny_pure ⟨rfl, h₃⟩
    | true =>
      exact wpAny_bind (wpAny_bind (wpAny_mono h₃ (fun x s₄ h₄ => wpAny_bind (wpAny_mono h₄ (fun _ s₅ h₅ => wpAny_pure (wpAny_pure ⟨rfl, h₅⟩)) fun _ _ h' => h')) fun _ _ h' => h'))

/-- the tests of a clause -/
def PIfs (X : Cx) (ifs : List Expr) (t : TT) : Prop :=
  ∀ (pins : List (Addr × Obj)) (s : Shared) (σ : St) (H : Hp) (Q : Bool → Hp → Prop), Inv X pins σ H s → t σ H Q →
    wpAny (model X.prog X.w) X.A (forIn ifs true fun c r => if r = true then do let ok ← isTrue c X.env (eval c X.env); pure (ForInStep.yield ok) else pure (ForInStep.yield r)) (TP X pins σ Q) X.xe s
def tYes : TT := fun _ H Q => Q true H
theorem pifs_nil {X : Cx} : PIfs X [] tYes := fun _ _ _ H _ I h => wpAny_tests_nil ⟨H, I, h⟩
theorem pifs_one {X : Cx} {c : Expr} {t : TT} (h : PT X c t) : PIfs X [c] t := fun pins s σ H Q I hw => wpAny_tests_one (h pins s σ H Q I hw)

/-- the reading of a comprehension: W is the invariant by the turn and a measure, the result grows at D -/
def tComp (wi : TI) (g : TG) (tc : TT) (te : TE) (k : Nat) : TE := fun σ H Q => wi σ H fun J H1 => ∀ D, H1 D = none →
  ∃ W : Nat → Nat → St → Hp → Prop, (∃ m, W 0 m (σ ++ List.replicate k none) (upd H1 D (.lst []))) ∧ ∀ i m σ' H', W i m σ' H' →
    (J.stop i H' ∧ Q (.ref D) H') ∨ (J.go i H' ∧ ∃ N : St → Hp → Prop, (∀ σ'' H'', N σ'' H'' → ∃ m', m' < m ∧ W (i + 1) m' σ'' H'') ∧
      ∀ x H2, J.yld i H' x H2 → g x σ' H2 fun σ2 H3 => tc σ2 H3 fun b H4 => if b = true then te σ2 H4 fun y H5 => ∃ ys, H5 D = some (.lst ys) ∧ ys.length < sizeLine ∧ N σ2 (upd H5 D (.lst (ys ++ [y]))) else N σ2 H4)

/-- the parts of a comprehension, in its block -/
structure PComp (X : Cx) (N' : List Str) (sc : Scope) (tg : Expr) (ifs : List Expr) (elt : Expr) (g : TG) (tc : TT) (te : TE) : Prop where
  pg : ∀ s H fp pins E, PG (cxComp X N' sc s H fp pins E) tg g
  pt : ∀ s H fp pins E, PIfs (cxComp X N' sc s H fp pins E) ifs tc
  pe : ∀ s H fp pins E, PE (cxComp X N' sc s H fp pins E) elt te

section
variable {X : Cx} {N' : List Str} {k : Nat} {sc : Scope} {tg iter elt : Expr} {ifs : List Expr} {pos : Pos} {g : TG} {tc : TT} {te : TE} {wi : TI}

theorem comp_block {pins : List (Addr × Obj)} {σ : St} {H : Hp} {s : Shared} {J : It} {fp : List Addr} {it : Addr} {tn : Nat → Heap → Prop} {Q : VK} {E : Value → Shared → Prop} {RR : Value → Addr → Result → Shared → Prop}
    (hc : X.calm = true) (S : CompScope X.N X.env.scope.names N' k sc) (P : PComp X N' sc tg ifs elt g tc te) (I : Inv X pins σ H s) (T : Turn X.prog X.w X.K tg J fp it tn) (st : tn 0 s.heap) (hf : ∀ b ∈ fp, FpOk X pins H b)
    (hW : ∀ D, H D = none → ∃ W : Nat → Nat → St → Hp → Prop, (∃ m, W 0 m (σ ++ List.replicate k none) (upd H D (.lst []))) ∧ ∀ i m σ' H', W i m σ' H' →
      (J.stop i H' ∧ Q (.ref D) H') ∨ (J.go i H' ∧ ∃ N : St → Hp → Prop, (∀ σ'' H'', N σ'' H'' → ∃ m', m' < m ∧ W (i + 1) m' σ'' H'') ∧
        ∀ x H2, J.yld i H' x H2 → g x σ' H2 fun σ2 H3 => tc σ2 H3 fun b H4 => if b = true then te σ2 H4 fun y H5 => ∃ ys, H5 D = some (.lst ys) ∧ ys.length < sizeLine ∧ N σ2 (upd H5 D (.lst (ys ++ [y]))) else N σ2 H4))
    (hR : ∀ D s3 H3 σ' H' s' E', Inv X pins σ H3 s3 → (∀ b ∈ fp, FpOk X pins H3 b) → Inv (cxComp X N' sc s3 H3 fp pins E') [] σ' H' s' → Q (.ref D) H' → RR (.ref D) s3.heap.objs.size (.ok .next) s') :
    wpAny (model X.prog X.w) X.A (newList []) (fun acc s₃ => wpAny (model X.prog X.w) X.A (newFunctionEnv sc X.env.globals (closL X.env.cells sc.names []) [] X.env.qual none .none (some X.env)) (fun cenv s₄ =>
      codeAny (model X.prog X.w) X.A (.compStart (.ListComp elt [⟨tg, iter, ifs, 0⟩] sc pos) 0 (.ref it) acc { cenv with scope := relabel sc X.env }) (RR acc cenv.locals) s₄) E s₃) E s := by
  obtain ⟨W, ⟨m0, w0⟩, step⟩ := hW s.heap.objs.size (I.hok.fresh (Nat.le_refl _))
  have I3 : Inv X pins σ (upd H s.heap.objs.size (.lst [])) { s with heap := s.heap.push { cls := .type "list", data := .seq ([] : List Value).toArray }, toks := s.toks } := I.lnew (t' := s.toks) .nil (Nat.zero_le _)
  have lt0 : ∀ b ∈ fp, b < s.heap.objs.size := fun b hb => by
    obtain ⟨o, e, _⟩ := T.obj 0 _ st b hb
    exact Heap.lt_size e
  have hf3 : ∀ b ∈ fp, FpOk X pins (upd H s.heap.objs.size (.lst [])) b := fun b hb => ⟨by rw [upd_ne (Nat.ne_of_lt (lt0 b hb))]; exact (hf b hb).1, (hf b hb).2⟩
  have lt3 : ∀ b ∈ fp, b < (s.heap.push { cls := .type "list", data := .seq ([] : List Value).toArray }).objs.size := fun b hb => by
    rw [Heap.size_push]
    exact Nat.lt_succ_of_lt (lt0 b hb)
  refine wpAny_newObj_type (wpAny_newFunctionEnv_comp ?_)
  generalize hs3 : ({ s with heap := s.heap.push { cls := .type "list", data := .seq ([] : List Value).toArray }, toks := s.toks } : Shared) = s3 at I3
  have hsh : s3.heap = s.heap.push { cls := .type "list", data := .seq ([] : List Value).toArray } := by rw [← hs3]
  rw [← hsh] at lt3
  have st3 : tn 0 s3.heap := T.keep _ _ _ st fun b _ o e => by rw [hsh]; exact Heap.get?_push_of_some _ e
  show codeAny _ _ (.compStart _ 0 (.ref it) (.ref s.heap.objs.size) (compEnvC sc (cellsFrom (s3.heap.objs.size + 1) sc.names (closL X.env.cells sc.names [])) s3.heap.objs.size X.env)) (RR (.ref s.heap.objs.size) s3.heap.objs.size)
    { s3 with heap := pushCells (s3.heap.push { cls := .type "dict", data := .dict #[] }) sc.names }
  generalize hD : s.heap.objs.size = D at *
  generalize hEn : (notedBy (model X.prog X.w) X.A (compEnvC sc (cellsFrom (s3.heap.objs.size + 1) sc.names (closL X.env.cells sc.names [])) s3.heap.objs.size X.env) fun e s' => RR (.ref D) s3.heap.objs.size (.error e) s') = En
  have I4 : Inv (cxComp X N' sc s3 (upd H D (.lst [])) fp pins En) [] (σ ++ List.replicate k none) (upd H D (.lst [])) { s3 with heap := pushCells (s3.heap.push { cls := .type "dict", data := .dict #[] }) sc.names } := comp_inv S I3 hf3 lt3
  have st4 : tn 0 (pushCells (s3.heap.push { cls := .type "dict", data := .dict #[] }) sc.names) := T.keep _ _ _ st3 fun b _ o e => pushCells_keeps _ _ _ _ (Heap.get?_push_of_some _ e)
  have stat : ∀ {H' : Hp}, (∀ b ∈ fp, H' b = none) → ∀ b ∈ fp, FpOk (cxComp X N' sc s3 (upd H D (.lst [])) fp pins En) [] H' b := fun hn b hb =>
    ⟨hn b hb, (I4.ok.exf b hb).1, I4.ok.exfs b hb, .inl hb, (I4.ok.exf b hb).2, fun p hp => (hf3 b hb).2.2.2.2.2 p (by
      rcases List.mem_append.mp hp with z | z
      · exact z
      · exact nomatch z)⟩
  have loop : codeAny (model X.prog X.w) X.A (.compLoop (.ListComp elt [⟨tg, iter, ifs, 0⟩] sc pos) 0 (.ref it) (.ref D) (cxComp X N' sc s3 (upd H D (.lst [])) fp pins En).env) (RR (.ref D) s3.heap.objs.size)
      { s3 with heap := pushCells (s3.heap.push { cls := .type "dict", data := .dict #[] }) sc.names } := by
    refine compLoop_any (fun n s' => ∃ i σ' H', Inv (cxComp X N' sc s3 (upd H D (.lst [])) fp pins En) [] σ' H' s' ∧ tn i s'.heap ∧ (∀ b ∈ fp, H' b = none) ∧ W i n σ' H') ?_ m0 ⟨0, _, _, I4, st4, fun b hb => (hf3 b hb).1, w0⟩
    have eEn : (notedBy (model X.prog X.w) X.A (cxComp X N' sc s3 (upd H D (.lst [])) fp pins En).env fun e s' => RR (.ref D) s3.heap.objs.size (.error e) s') = En := hEn
    rw [eEn]
    rintro n s5 ⟨i, σ5, H5, I5, st5, fr5, w5⟩
    rcases step i n σ5 H5 w5 with ⟨stop, qn⟩ | ⟨go, N, hN, turn⟩
    · refine thn (T.done (cxComp X N' sc s3 (upd H D (.lst [])) fp pins En) rfl rfl rfl hc i [] s5 σ5 H5 En I5 (stat fr5) st5 stop) fun r s6 ⟨hr, I6⟩ => ?_
      subst hr
      exact hR D s3 _ σ5 H5 s6 En I3 hf3 I6 qn
    · refine thn (T.item (cxComp X N' sc s3 (upd H D (.lst [])) fp pins En) rfl rfl rfl hc i [] s5 σ5 H5 En I5 (stat fr5) st5 go) fun r s6 ⟨u, hr, h6⟩ => ?_
      subst hr
      refine thn h6 fun _ s7 ⟨x, H7, I7, r7, y7, st7, fr7⟩ => ?_
      have I7' := I7.pinned (stat fr7) (T.obj _ _ st7)
      have back : ∀ {σ9 : St} {H9 : Hp} {s9 : Shared}, Inv (cxComp X N' sc s3 (upd H D (.lst [])) fp pins En) ([] ++ pinsAt fp s7.heap) σ9 H9 s9 → N σ9 H9 →
          ∃ m, m < n ∧ ∃ i σ' H', Inv (cxComp X N' sc s3 (upd H D (.lst [])) fp pins En) [] σ' H' s9 ∧ tn i s9.heap ∧ (∀ b ∈ fp, H' b = none) ∧ W i m σ' H' := fun {σ9 H9 s9} I9 n9 => by
        obtain ⟨m', hm, w9⟩ := hN σ9 H9 n9
        refine ⟨m', hm, i + 1, σ9, H9, I9.unpinned, T.keep _ _ _ st7 fun b hb o e => (I9.pin (b, o) (List.mem_append_right _ (List.mem_append_right _ (mem_pinsAt hb e)))).1, fun b hb => ?_, w9⟩
        obtain ⟨o, e, d⟩ := T.obj _ _ st7 b hb
        exact (I9.pin (b, o) (List.mem_append_right _ (List.mem_append_right _ (mem_pinsAt hb e)))).2.1
      refine thn (P.pg s3 _ fp pins En _ s7 σ5 H7 x u _ I7' r7 (turn x H7 y7)) fun _ s8 ⟨σ8, H8, I8, q8⟩ => ?_
      refine thn (P.pt s3 _ fp pins En _ s8 σ8 H8 _ I8 q8) fun ok s9 ⟨H9, I9, q9⟩ => ?_
      cases ok with
      | false =>
        rw [if_neg Bool.false_ne_true] at q9
        rw [if_neg Bool.false_ne_true]
        exact back I9 q9
      | true =>
        rw [if_pos rfl] at q9
        rw [if_pos rfl]
        refine thn (P.pe s3 _ fp pins En _ s9 σ8 H9 _ I9 q9) fun y s10 ⟨yv, H10, I10, r10, ys, hys, hl, q10⟩ => ?_
        refine thn (mt_append _ s10 σ8 H10 (.ref D) [yv] (.ref D) [y] (fun _ H' => N σ8 H') I10 rfl (.cons r10 .nil) ⟨D, ys, yv, rfl, rfl, hys, hl, q10⟩) fun _ s11 ⟨_, H11, I11, _, q11⟩ => ?_
        exact back I11 q11
  exact codeAny_compStart_list loop (T.self X.A 0 _ _ _ st4 loop)

theorem CompScope.names' {N : List Str} {out : List (Str × NameKind)} (S : CompScope N out N' k sc) : ∀ x ∈ sc.names, x.2 = .local → sc.names.lookup x.1 = some .local := fun x hx e => by
  obtain ⟨n, kd⟩ := x
  have e' : kd = .local := e
  subst e'
  exact S.look hx

theorem pe_comp (hc : X.calm = true) (S : CompScope X.N X.env.scope.names N' k sc) (hi : PI X tg iter wi) (P : PComp X N' sc tg ifs elt g tc te) (hs : ∀ x, foldedSetIterable iter X.env x = pure x := by intro _; rfl) :
    PE X (.ListComp elt [⟨tg, iter, ifs, 0⟩] sc pos) (tComp wi g tc te k) := by
  intro pins s σ H Q I h
  rw [eval_ListComp]
  refine wpAny_comprehension_free (use := none) rfl hs (closureFor_closL fun n hn => I.ok.has n (S.fr hn)) S.kind S.names' (thn (hi pins s σ H _ I h) fun v s1 h1 => thn h1 fun itv s2 h2 => ?_)
  obtain ⟨it, fp, tn, J, H2, e, I2, T, st2, f2, hW⟩ := h2
  subst e
  refine comp_block (Q := Q) (RR := fun acc C => compPost (model X.prog X.w) X.A X.xe none (EP X pins σ Q) acc C) hc S P I2 T st2 f2 hW ?_
  intro D s3 H3 σ' H' s' E' I3 f3 J' q
  obtain ⟨m, hn, _⟩ := J'.loc
  exact ⟨m, hn, fun h' hb => ⟨.ref D, H', comp_gone I3 (comp_exit I3 f3 J') J'.free hb, rfl, q⟩⟩

end
end L2

/-! ### E2: values as trees, without the heap -/
namespace L2
open PySem PySem.Spec PyProof.Rows

inductive D where
  | non | bl (b : Bool) | int (i : Int) | str (x : Str) | lst (xs : List D) | tup (xs : List D) | scr (ns : List Int) | dct (ks : List Key) (xs : List D) | exc (x : Str) | obj (x : Str) (a : Addr) (ks : List Str) (ds : List D)
/-- of the program's own class at C isinstance can be asked, and it is none of Python's plain ones -/
def xclsB (K : PySem.W.Frag) (C : Addr) : Bool := PySem.W.findIn K (.ref C) "__getattribute__" == some (some (.builtin "BaseException.__getattribute__")) && PySem.W.findIn K (.ref C) "__getattr__" == some none && PySem.W.mroIn K C (.type "BaseException") == some true && (PySem.W.clsIn K C).isSome && PySem.W.findIn K (.ref C) "__class__" == some (some (.builtin "object.__class__")) &&
  PySem.W.specialIn K (.builtin "object.__class__") "__get__" == some (some (.builtin "getset_descriptor.__get__")) && PySem.W.takesIn K (.builtin "object.__class__") == some true && PySem.W.mroIn K C (.type "object") == some true &&
  ["bool", "int", "str", "list", "tuple", "dict"].all fun T => PySem.W.kitOne K (.ref C) (.type T) == some false
/-- of the program's own class at C: its instances' attributes ks can be read and set -/
def iclsB (K : PySem.W.Frag) (C : Addr) (ks : List Str) : Bool := PySem.W.plainGet K C Str.empty && PySem.W.hasDictIn K C && PySem.W.plainOver K C && PySem.W.findIn K (.ref C) "__setattr__" == some (some (.builtin "object.__setattr__")) &&
  PySem.W.findIn K (.ref C) "__class__" == some (some (.builtin "object.__class__")) && PySem.W.specialIn K (.builtin "object.__class__") "__get__" == some (some (.builtin "getset_descriptor.__get__")) && PySem.W.takesIn K (.builtin "object.__class__") == some true && PySem.W.mroIn K C (.type "object") == some true &&
  (["bool", "int", "str", "list", "tuple", "dict"].all fun T => PySem.W.kitOne K (.ref C) (.type T) == some false) && ks.all fun f => PySem.W.findIn K (.ref C) f == some none
/-- an exception of the class at C -/
def isX (a C : Addr) (h : Heap) : Prop := ∃ o, h.get? a = some o ∧ o.cls = .ref C ∧ o.dict = none ∧ PySem.W.notCls o = true

/-- a list that nobody changes: the script -/
def SqF (K : PySem.W.Frag) (H : Hp) (a : Addr) (xs : List V) : Prop :=
  (∃ o, H a = some (.frz o (.lst xs))) ∨ ∃ (o : Obj) (its : Array Value) (n : Nat), K.lookup a = some o ∧ o.cls = .type "list" ∧ o.dict = none ∧ o.data = .seq its n ∧ its.size ≤ sizeLine ∧ Vals xs its.toList
theorem SqF.sq {K : PySem.W.Frag} {H : Hp} {a : Addr} {xs : List V} (h : SqF K H a xs) : SqL K H a xs := h.elim (fun z => .inl (.inr z)) .inr
/- v stands for d at H, through no list or dict of B -/
mutual
def Rep (K : PySem.W.Frag) (H : Hp) (B : Addr → Prop) : D → V → Prop
  | .non, v => v = .non
  | .bl b, v => v = .bl b
  | .int i, v => v = .int i
  | .str x, v => v = .str x
  | .lst ds, v => ∃ a xs, v = .ref a ∧ ¬ B a ∧ H a = some (.lst xs) ∧ Reps K H B ds xs
  | .tup ds, v => ∃ a xs, v = .ref a ∧ SqT K H a xs ∧ Reps K H B ds xs
  | .scr ns, v => ∃ a, v = .ref a ∧ SqF K H a (ns.map V.int)
  | .dct ks ds, v => ∃ a kvs, v = .ref a ∧ ¬ B a ∧ H a = some (.dK kvs) ∧ kvs.map (·.1) = ks ∧ Reps K H B ds (kvs.map (·.2))
  | .exc x, v => ∃ a C, v = .ref a ∧ ¬ B a ∧ H a = some (.ext (isX a C)) ∧ PySem.W.nsIn K mainGlobals x = some (some (.ref C)) ∧ xclsB K C = true
  | .obj x a ks ds, v => ∃ C dx fs, ¬ B a ∧ H a = some (.ins C dx fs) ∧ (v = .ref a ∧ PySem.W.nsIn K mainGlobals x = some (some (.ref C)) ∧ iclsB K C ks = true ∧ fs.map (·.1) = ks) ∧ Reps K H B ds (fs.map (·.2))
def Reps (K : PySem.W.Frag) (H : Hp) (B : Addr → Prop) : List D → List V → Prop
  | [], xs => xs = []
  | d :: ds, xs => ∃ x r, xs = x :: r ∧ Rep K H B d x ∧ Reps K H B ds r
end
/- v is the tree d at H, its lists and dicts those of A, each held there -/
mutual
def Tree (K : PySem.W.Frag) (H : Hp) : D → V → List Addr → Prop
  | .non, v, A => v = .non ∧ A = []
  | .bl b, v, A => v = .bl b ∧ A = []
  | .int i, v, A => v = .int i ∧ A = []
  | .str x, v, A => v = .str x ∧ A = []
  | .lst ds, v, A => ∃ a xs B, v = .ref a ∧ H a = some (.lst xs) ∧ Trees K H ds xs B ∧ A = a :: B
  | .tup ds, v, A => ∃ a xs, v = .ref a ∧ SqT K H a xs ∧ Trees K H ds xs A
  | .scr ns, v, A => (∃ a, v = .ref a ∧ SqF K H a (ns.map V.int)) ∧ A = []
  | .dct ks ds, v, A => ∃ a kvs B, v = .ref a ∧ H a = some (.dK kvs) ∧ kvs.map (·.1) = ks ∧ Trees K H ds (kvs.map (·.2)) B ∧ A = a :: B
  | .exc x, v, A => ∃ a C, v = .ref a ∧ H a = some (.ext (isX a C)) ∧ PySem.W.nsIn K mainGlobals x = some (some (.ref C)) ∧ xclsB K C = true ∧ A = [a]
  | .obj x a ks ds, v, A => ∃ C dx fs A1, H a = some (.ins C dx fs) ∧ (v = .ref a ∧ PySem.W.nsIn K mainGlobals x = some (some (.ref C)) ∧ iclsB K C ks = true ∧ fs.map (·.1) = ks) ∧ Trees K H ds (fs.map (·.2)) A1 ∧ A = a :: A1
def Trees (K : PySem.W.Frag) (H : Hp) : List D → List V → List Addr → Prop
  | [], xs, A => xs = [] ∧ A = []
  | d :: ds, xs, A => ∃ x r B C, xs = x :: r ∧ Tree K H d x B ∧ Trees K H ds r C ∧ A = B ++ C
end
/- nothing in it can change -/
mutual
def D.imm : D → Bool
  | .non => true
  | .bl _ => true
  | .int _ => true
  | .str _ => true
  | .lst _ => false
  | .tup ds => imms ds
  | .scr _ => true
  | .dct _ _ => false
  | .exc _ => false
  | .obj _ _ _ _ => false
def imms : List D → Bool
  | [] => true
  | d :: ds => d.imm && imms ds
end

theorem Same.tup {K : PySem.W.Frag} {H H' : Hp} {a : Addr} {xs : List V} (e : Same H H') (h : SqT K H a xs) : SqT K H' a xs := by
  rcases h with (h | ⟨o, h⟩) | h
  · exact .inl (.inl (e _ _ h))
  · exact .inl (.inr ⟨o, e _ _ h⟩)
  · exact .inr h

section
variable {K : PySem.W.Frag} {H H' : Hp} {B B' : Addr → Prop}

structure KeepI (K : PySem.W.Frag) (H H' : Hp) : Prop where
  st : ∀ a xs, SqT K H a xs → SqT K H' a xs
  sf : ∀ a xs, SqF K H a xs → SqF K H' a xs
/-- what is kept: what is read of lists, dicts (outside of B) and tuples -/
structure Keep (K : PySem.W.Frag) (B : Addr → Prop) (H H' : Hp) : Prop where
  sl : ∀ a xs, ¬ B a → H a = some (.lst xs) → H' a = some (.lst xs)
  st : ∀ a xs, SqT K H a xs → SqT K H' a xs
  sf : ∀ a xs, SqF K H a xs → SqF K H' a xs
  sd : ∀ a kvs, ¬ B a → H a = some (.dK kvs) → H' a = some (.dK kvs)
  sx : ∀ a φ, ¬ B a → H a = some (.ext φ) → H' a = some (.ext φ)
  si : ∀ a C dx fs, ¬ B a → H a = some (.ins C dx fs) → H' a = some (.ins C dx fs)

theorem Keep.i (k : Keep K B H H') : KeepI K H H' := ⟨k.st, k.sf⟩
mutual
theorem Rep.keep (k : Keep K B H H') : ∀ (d : D) {v : V}, Rep K H B d v → Rep K H' B d v
  | .non, _, h => h
  | .bl _, _, h => h
  | .int _, _, h => h
  | .str _, _, h => h
  | .lst ds, _, h => by
    unfold Rep at h ⊢
    obtain ⟨a, xs, e, n, s, r⟩ := h
    exact ⟨a, xs, e, n, k.sl a xs n s, Reps.keep k ds r⟩
  | .tup ds, _, h => by
    unfold Rep at h ⊢
    obtain ⟨a, xs, e, s, r⟩ := h
    exact ⟨a, xs, e, k.st a xs s, Reps.keep k ds r⟩
  | .scr ns, _, h => by
    unfold Rep at h ⊢
    obtain ⟨a, e, s⟩ := h
    exact ⟨a, e, k.sf a _ s⟩
  | .dct ks ds, _, h => by
    unfold Rep at h ⊢
    obtain ⟨a, kvs, e, n, s, q, r⟩ := h
    exact ⟨a, kvs, e, n, k.sd a kvs n s, q, Reps.keep k ds r⟩
  | .exc _, _, h => by
    unfold Rep at h ⊢
    obtain ⟨a, C, e, n, s, r⟩ := h
    exact ⟨a, C, e, n, k.sx a _ n s, r⟩
  | .obj x a ks ds, _, h => by
    unfold Rep at h ⊢
    obtain ⟨C, dx, fs, n, s, q, r1⟩ := h
    exact ⟨C, dx, fs, n, k.si a C dx fs n s, q, Reps.keep k ds r1⟩
theorem Reps.keep (k : Keep K B H H') : ∀ (ds : List D) {xs : List V}, Reps K H B ds xs → Reps K H' B ds xs
  | [], _, h => h
  | d :: ds, _, h => by
    unfold Reps at h ⊢
    obtain ⟨x, r, e, h1, h2⟩ := h
    exact ⟨x, r, e, Rep.keep k d h1, Reps.keep k ds h2⟩
end
mutual
theorem Rep.anti (hb : ∀ a, B' a → B a) : ∀ (d : D) {v : V}, Rep K H B d v → Rep K H B' d v
  | .non, _, h => h
  | .bl _, _, h => h
  | .int _, _, h => h
  | .str _, _, h => h
  | .lst ds, _, h => by
    unfold Rep at h ⊢
    obtain ⟨a, xs, e, n, s, r⟩ := h
    exact ⟨a, xs, e, fun z => n (hb a z), s, Reps.anti hb ds r⟩
  | .tup ds, _, h => by
    unfold Rep at h ⊢
    obtain ⟨a, xs, e, s, r⟩ := h
    exact ⟨a, xs, e, s, Reps.anti hb ds r⟩
  | .scr _, _, h => h
  | .dct ks ds, _, h => by
    unfold Rep at h ⊢
    obtain ⟨a, kvs, e, n, s, q, r⟩ := h
    exact ⟨a, kvs, e, fun z => n (hb a z), s, q, Reps.anti hb ds r⟩
  | .exc _, _, h => by
    unfold Rep at h ⊢
    obtain ⟨a, C, e, n, r⟩ := h
    exact ⟨a, C, e, fun z => n (hb a z), r⟩
  | .obj x a ks ds, _, h => by
    unfold Rep at h ⊢
    obtain ⟨C, dx, fs, n, s, q, r1⟩ := h
    exact ⟨C, dx, fs, fun z => n (hb a z), s, q, Reps.anti hb ds r1⟩
theorem Reps.anti (hb : ∀ a, B' a → B a) : ∀ (ds : List D) {xs : List V}, Reps K H B ds xs → Reps K H B' ds xs
  | [], _, h => h
  | d :: ds, _, h => by
    unfold Reps at h ⊢
    obtain ⟨x, r, e, h1, h2⟩ := h
    exact ⟨x, r, e, Rep.anti hb d h1, Reps.anti hb ds h2⟩
end
/- what cannot change stands for itself through whatever -/
mutual
theorem Rep.imm : ∀ (d : D) {v : V}, d.imm = true → Rep K H B d v → Rep K H B' d v
  | .non, _, _, h => h
  | .bl _, _, _, h => h
  | .int _, _, _, h => h
  | .str _, _, _, h => h
  | .lst _, _, i, _ => by unfold D.imm at i; cases i
  | .dct _ _, _, i, _ => by unfold D.imm at i; cases i
  | .exc _, _, i, _ => by unfold D.imm at i; cases i
  | .obj _ _ _ _, _, i, _ => by unfold D.imm at i; cases i
  | .tup ds, _, i, h => by
    unfold D.imm at i
    unfold Rep at h ⊢
    obtain ⟨a, xs, e, s, r⟩ := h
    exact ⟨a, xs, e, s, Reps.imm ds i r⟩
  | .scr _, _, _, h => h
theorem Reps.imm : ∀ (ds : List D) {xs : List V}, imms ds = true → Reps K H B ds xs → Reps K H B' ds xs
  | [], _, _, h => h
  | d :: ds, _, i, h => by
    unfold imms at i
    rw [Bool.and_eq_true] at i
    unfold Reps at h ⊢
    obtain ⟨x, r, e, h1, h2⟩ := h
    exact ⟨x, r, e, Rep.imm d i.1 h1, Reps.imm ds i.2 h2⟩
end
/- and it is a tree without lists -/
mutual
theorem Rep.immTree : ∀ (d : D) {v : V}, d.imm = true → Rep K H B d v → Tree K H d v []
  | .non, _, _, h => ⟨h, rfl⟩
  | .bl _, _, _, h => ⟨h, rfl⟩
  | .int _, _, _, h => ⟨h, rfl⟩
  | .str _, _, _, h => ⟨h, rfl⟩
  | .lst _, _, i, _ => by unfold D.imm at i; cases i
  | .dct _ _, _, i, _ => by unfold D.imm at i; cases i
  | .exc _, _, i, _ => by unfold D.imm at i; cases i
  | .obj _ _ _ _, _, i, _ => by unfold D.imm at i; cases i
  | .tup ds, _, i, h => by
    unfold D.imm at i
    unfold Rep at h
    unfold Tree
    obtain ⟨a, xs, e, s, r⟩ := h
    exact ⟨a, xs, e, s, Reps.immTree ds i r⟩
  | .scr _, _, _, h => ⟨h, rfl⟩
theorem Reps.immTree : ∀ (ds : List D) {xs : List V}, imms ds = true → Reps K H B ds xs → Trees K H ds xs []
  | [], _, _, h => ⟨h, rfl⟩
  | d :: ds, _, i, h => by
    unfold imms at i
    rw [Bool.and_eq_true] at i
    unfold Reps at h
    unfold Trees
    obtain ⟨x, r, e, h1, h2⟩ := h
    exact ⟨x, r, [], [], e, Rep.immTree d i.1 h1, Reps.immTree ds i.2 h2, rfl⟩
end
mutual
theorem Tree.rep : ∀ (d : D) {v : V} {A : List Addr}, Tree K H d v A → (∀ a ∈ A, ¬ B a) → Rep K H B d v
  | .non, _, _, h, _ => h.1
  | .bl _, _, _, h, _ => h.1
  | .int _, _, _, h, _ => h.1
  | .str _, _, _, h, _ => h.1
  | .lst ds, _, _, h, n => by
    unfold Tree at h
    unfold Rep
    obtain ⟨a, xs, C, e, s, r, rfl⟩ := h
    exact ⟨a, xs, e, n a List.mem_cons_self, s, Trees.rep ds r fun b hb => n b (List.mem_cons_of_mem _ hb)⟩
  | .tup ds, _, _, h, n => by
    unfold Tree at h
    unfold Rep
    obtain ⟨a, xs, e, s, r⟩ := h
    exact ⟨a, xs, e, s, Trees.rep ds r n⟩
  | .scr _, _, _, h, _ => h.1
  | .dct ks ds, _, _, h, n => by
    unfold Tree at h
    unfold Rep
    obtain ⟨a, kvs, C, e, s, q, r, rfl⟩ := h
    exact ⟨a, kvs, e, n a List.mem_cons_self, s, q, Trees.rep ds r fun b hb => n b (List.mem_cons_of_mem _ hb)⟩
  | .exc _, _, _, h, n => by
    unfold Tree at h
    unfold Rep
    obtain ⟨a, C, e, s, r1, r2, rfl⟩ := h
    exact ⟨a, C, e, n a List.mem_cons_self, s, r1, r2⟩
  | .obj x a ks ds, _, _, h, n => by
    unfold Tree at h
    unfold Rep
    obtain ⟨C, dx, fs, A1, s, q, r1, rfl⟩ := h
    exact ⟨C, dx, fs, n a List.mem_cons_self, s, q, Trees.rep ds r1 fun b hb => n b (List.mem_cons_of_mem _ hb)⟩
theorem Trees.rep : ∀ (ds : List D) {xs : List V} {A : List Addr}, Trees K H ds xs A → (∀ a ∈ A, ¬ B a) → Reps K H B ds xs
  | [], _, _, h, _ => h.1
  | d :: ds, _, _, h, n => by
    unfold Trees at h
    unfold Reps
    obtain ⟨x, r, C, C', e, h1, h2, rfl⟩ := h
    exact ⟨x, r, e, Tree.rep d h1 fun b hb => n b (List.mem_append_left _ hb), Trees.rep ds h2 fun b hb => n b (List.mem_append_right _ hb)⟩
end
/- a tree stays where its own lists stay -/
mutual
theorem Tree.keep (kt : KeepI K H H') : ∀ (d : D) {v : V} {A : List Addr}, Tree K H d v A → (∀ a ∈ A, ∀ o, H a = some o → H' a = some o) → Tree K H' d v A
  | .non, _, _, h, _ => h
  | .bl _, _, _, h, _ => h
  | .int _, _, _, h, _ => h
  | .str _, _, _, h, _ => h
  | .lst ds, _, _, h, n => by
    unfold Tree at h ⊢
    obtain ⟨a, xs, C, e, s, r, rfl⟩ := h
    exact ⟨a, xs, C, e, n a List.mem_cons_self _ s, Trees.keep kt ds r fun b hb => n b (List.mem_cons_of_mem _ hb), rfl⟩
  | .tup ds, _, _, h, n => by
    unfold Tree at h ⊢
    obtain ⟨a, xs, e, s, r⟩ := h
    exact ⟨a, xs, e, kt.st a xs s, Trees.keep kt ds r n⟩
  | .scr _, _, _, h, _ => by
    unfold Tree at h ⊢
    obtain ⟨⟨a, e, s⟩, q⟩ := h
    exact ⟨⟨a, e, kt.sf a _ s⟩, q⟩
  | .dct ks ds, _, _, h, n => by
    unfold Tree at h ⊢
    obtain ⟨a, kvs, C, e, s, q, r, rfl⟩ := h
    exact ⟨a, kvs, C, e, n a List.mem_cons_self _ s, q, Trees.keep kt ds r fun b hb => n b (List.mem_cons_of_mem _ hb), rfl⟩
  | .exc _, _, _, h, n => by
    unfold Tree at h ⊢
    obtain ⟨a, C, e, s, r1, r2, rfl⟩ := h
    exact ⟨a, C, e, n a List.mem_cons_self _ s, r1, r2, rfl⟩
  | .obj x a ks ds, _, _, h, n => by
    unfold Tree at h ⊢
    obtain ⟨C, dx, fs, A1, s, q, r1, rfl⟩ := h
    exact ⟨C, dx, fs, A1, n a List.mem_cons_self _ s, q, Trees.keep kt ds r1 fun b hb => n b (List.mem_cons_of_mem _ hb), rfl⟩
theorem Trees.keep (kt : KeepI K H H') : ∀ (ds : List D) {xs : List V} {A : List Addr}, Trees K H ds xs A → (∀ a ∈ A, ∀ o, H a = some o → H' a = some o) → Trees K H' ds xs A
  | [], _, _, h, _ => h
  | d :: ds, _, _, h, n => by
    unfold Trees at h ⊢
    obtain ⟨x, r, C, C', e, h1, h2, rfl⟩ := h
    exact ⟨x, r, C, C', e, Tree.keep kt d h1 fun b hb => n b (List.mem_append_left _ hb), Trees.keep kt ds h2 fun b hb => n b (List.mem_append_right _ hb), rfl⟩
end
/- what a tree's addresses hold -/
mutual
theorem Tree.held : ∀ (d : D) {v : V} {A : List Addr}, Tree K H d v A → ∀ a ∈ A, ∃ o, H a = some o ∧ Mut (some o)
  | .non, _, _, h, a, ha => by rw [h.2] at ha; cases ha
  | .bl _, _, _, h, a, ha => by rw [h.2] at ha; cases ha
  | .int _, _, _, h, a, ha => by rw [h.2] at ha; cases ha
  | .str _, _, _, h, a, ha => by rw [h.2] at ha; cases ha
  | .lst ds, _, _, h, b, hb => by
    unfold Tree at h
    obtain ⟨a, xs, C, e, s, r, rfl⟩ := h
    rcases List.mem_cons.mp hb with z | z
    · subst z; exact ⟨_, s, trivial⟩
    · exact Trees.held ds r b z
  | .tup ds, _, _, h, b, hb => by
    unfold Tree at h
    obtain ⟨a, xs, e, s, r⟩ := h
    exact Trees.held ds r b hb
  | .scr _, _, _, h, a, ha => by rw [h.2] at ha; cases ha
  | .dct ks ds, _, _, h, b, hb => by
    unfold Tree at h
    obtain ⟨a, kvs, C, e, s, q, r, rfl⟩ := h
    rcases List.mem_cons.mp hb with z | z
    · subst z; exact ⟨_, s, trivial⟩
    · exact Trees.held ds r b z
  | .exc _, _, _, h, b, hb => by
    unfold Tree at h
    obtain ⟨a, C, e, s, r1, r2, rfl⟩ := h
    rw [List.mem_singleton.mp hb]
    exact ⟨_, s, trivial⟩
  | .obj x a ks ds, _, _, h, b, hb => by
    unfold Tree at h
    obtain ⟨C, dx, fs, A1, s, q, r1, rfl⟩ := h
    rcases List.mem_cons.mp hb with z | z
    · subst z; exact ⟨_, s, trivial⟩
    · exact Trees.held ds r1 b z
theorem Trees.held : ∀ (ds : List D) {xs : List V} {A : List Addr}, Trees K H ds xs A → ∀ a ∈ A, ∃ o, H a = some o ∧ Mut (some o)
  | [], _, _, h, a, ha => by rw [h.2] at ha; cases ha
  | d :: ds, _, _, h, b, hb => by
    unfold Trees at h
    obtain ⟨x, r, C, C', e, h1, h2, rfl⟩ := h
    rcases List.mem_append.mp hb with z | z
    · exact Tree.held d h1 b z
    · exact Trees.held ds h2 b z
end

theorem Same.rd {H H' : Hp} {a : Addr} {u : HO} (e : Same H H') (h : Rd H a u) : Rd H' a u := h.elim (fun z => .inl (e _ _ z)) fun ⟨o, z⟩ => .inr ⟨o, e _ _ z⟩
theorem Same.sf (e : Same H H') {a : Addr} {xs : List V} (h : SqF K H a xs) : SqF K H' a xs := h.elim (fun ⟨o, z⟩ => .inl ⟨o, e _ _ z⟩) .inr
theorem Keep.same (e : Same H H') : Keep K B H H' := ⟨fun _ _ _ h => e _ _ h, fun _ _ h => e.tup h, fun _ _ h => e.sf h, fun _ _ _ h => e _ _ h, fun _ _ _ h => e _ _ h, fun _ _ _ _ _ h => e _ _ h⟩
theorem KeepI.same (e : Same H H') : KeepI K H H' := ⟨fun _ _ h => e.tup h, fun _ _ h => e.sf h⟩
theorem Rep.mono {d : D} {v : V} (h : Rep K H B d v) (e : Same H H') : Rep K H' B d v := Rep.keep (.same e) d h
theorem Reps.mono {ds : List D} {xs : List V} (h : Reps K H B ds xs) (e : Same H H') : Reps K H' B ds xs := Reps.keep (.same e) ds h
theorem Tree.mono {d : D} {v : V} {A : List Addr} (h : Tree K H d v A) (e : Same H H') : Tree K H' d v A := Tree.keep (.same e) d h fun a _ o z => e a o z
theorem Trees.mono {ds : List D} {v : List V} {A : List Addr} (h : Trees K H ds v A) (e : Same H H') : Trees K H' ds v A := Trees.keep (.same e) ds h fun a _ o z => e a o z

/- what is not there yet is not gone through -/
mutual
theorem Rep.wide {C : Addr → Prop} (hc : ∀ a, C a → H a = none) : ∀ (d : D) {v : V}, Rep K H B d v → Rep K H (fun a => B a ∨ C a) d v
  | .non, _, h => h
  | .bl _, _, h => h
  | .int _, _, h => h
  | .str _, _, h => h
  | .lst ds, _, h => by
    unfold Rep at h ⊢
    obtain ⟨a, xs, e, n, s, r⟩ := h
    refine ⟨a, xs, e, fun z => z.elim n fun z => ?_, s, Reps.wide hc ds r⟩
    rw [hc a z] at s; cases s
  | .tup ds, _, h => by
    unfold Rep at h ⊢
    obtain ⟨a, xs, e, s, r⟩ := h
    exact ⟨a, xs, e, s, Reps.wide hc ds r⟩
  | .scr _, _, h => h
  | .dct ks ds, _, h => by
    unfold Rep at h ⊢
    obtain ⟨a, kvs, e, n, s, q, r⟩ := h
    refine ⟨a, kvs, e, fun z => z.elim n fun z => ?_, s, q, Reps.wide hc ds r⟩
    rw [hc a z] at s; cases s
  | .exc _, _, h => by
    unfold Rep at h ⊢
    obtain ⟨a, C, e, n, s, r⟩ := h
    refine ⟨a, C, e, fun z => z.elim n fun z => ?_, s, r⟩
    rw [hc a z] at s; cases s
  | .obj x a ks ds, _, h => by
    unfold Rep at h ⊢
    obtain ⟨C', dx, fs, n, s, q, r1⟩ := h
    refine ⟨C', dx, fs, fun z => z.elim n fun z => ?_, s, q, Reps.wide hc ds r1⟩
    rw [hc a z] at s; cases s
theorem Reps.wide {C : Addr → Prop} (hc : ∀ a, C a → H a = none) : ∀ (ds : List D) {xs : List V}, Reps K H B ds xs → Reps K H (fun a => B a ∨ C a) ds xs
  | [], _, h => h
  | d :: ds, _, h => by
    unfold Reps at h ⊢
    obtain ⟨x, r, e, h1, h2⟩ := h
    exact ⟨x, r, e, Rep.wide hc d h1, Reps.wide hc ds h2⟩
end
/-- a list or dict of B is written -/
theorem Keep.upd {a : Addr} {o : HO} (hb : B a) (mu : Mut (H a)) : Keep K B H (upd H a o) := by
  refine ⟨fun b xs n h => ?_, fun b xs h => ?_, fun b xs h => ?_, fun b kvs n h => ?_, fun b φ n h => ?_, fun b C dx fs n h => ?_⟩
  · have ne : b ≠ a := fun z => n (z ▸ hb)
    rw [upd_ne ne]; exact h
  · rcases h with (h | ⟨u, h⟩) | h
    · have ne : b ≠ a := fun z => by subst z; rw [h] at mu; exact mu
      exact .inl (.inl (by rw [upd_ne ne]; exact h))
    · have ne : b ≠ a := fun z => by subst z; rw [h] at mu; exact mu
      exact .inl (.inr ⟨u, by rw [upd_ne ne]; exact h⟩)
    · exact .inr h
  · rcases h with ⟨u, h⟩ | h
    · have ne : b ≠ a := fun z => by subst z; rw [h] at mu; exact mu
      exact .inl ⟨u, by rw [upd_ne ne]; exact h⟩
    · exact .inr h
  · have ne : b ≠ a := fun z => n (z ▸ hb)
    rw [upd_ne ne]; exact h
  · have ne : b ≠ a := fun z => n (z ▸ hb)
    rw [upd_ne ne]; exact h
  · have ne : b ≠ a := fun z => n (z ▸ hb)
    rw [upd_ne ne]; exact h
theorem same_upd {a : Addr} {o : HO} (h : H a = none) : Same H (upd H a o) := fun b u e => by rw [upd_ne (ne_of_none e h)]; exact e

theorem Reps.length : ∀ {ds : List D} {xs : List V}, Reps K H B ds xs → ds.length = xs.length
  | [], _, h => by unfold Reps at h; subst h; rfl
  | d :: ds, _, h => by
    unfold Reps at h
    obtain ⟨x, r, rfl, _, h2⟩ := h
    simp [Reps.length h2]
theorem Reps.get : ∀ {ds : List D} {xs : List V} {i : Nat} {d : D}, Reps K H B ds xs → ds[i]? = some d → ∃ x, xs[i]? = some x ∧ Rep K H B d x
  | [], _, _, _, _, e => by simp at e
  | d :: ds, _, i, d', h, e => by
    unfold Reps at h
    obtain ⟨x, r, rfl, h1, h2⟩ := h
    cases i with
    | zero => simp at e; subst e; exact ⟨x, rfl, h1⟩
    | succ i => simpa using Reps.get (i := i) h2 (by simpa using e)
theorem Reps.get' : ∀ {ds : List D} {xs : List V} {i : Nat} {x : V}, Reps K H B ds xs → xs[i]? = some x → ∃ d, ds[i]? = some d ∧ Rep K H B d x
  | [], _, _, _, h, e => by unfold Reps at h; subst h; simp at e
  | d :: ds, _, i, x', h, e => by
    unfold Reps at h
    obtain ⟨x, r, rfl, h1, h2⟩ := h
    cases i with
    | zero => simp at e; subst e; exact ⟨d, rfl, h1⟩
    | succ i => simpa using Reps.get' (i := i) h2 (by simpa using e)
theorem Reps.append : ∀ {ds es : List D} {xs ys : List V}, Reps K H B ds xs → Reps K H B es ys → Reps K H B (ds ++ es) (xs ++ ys)
  | [], _, _, _, h, h' => by unfold Reps at h; subst h; exact h'
  | d :: ds, es, _, ys, h, h' => by
    unfold Reps at h
    obtain ⟨x, r, rfl, h1, h2⟩ := h
    exact (show Reps K H B (d :: (ds ++ es)) (x :: (r ++ ys)) by unfold Reps; exact ⟨x, r ++ ys, rfl, h1, Reps.append h2 h'⟩)
theorem Reps.take : ∀ {ds : List D} {xs : List V} (n : Nat), Reps K H B ds xs → Reps K H B (ds.take n) (xs.take n)
  | _, _, 0, _ => by rw [List.take_zero, List.take_zero]; unfold Reps; rfl
  | [], _, _ + 1, h => by unfold Reps at h; subst h; unfold Reps; rfl
  | d :: ds, _, n + 1, h => by
    unfold Reps at h
    obtain ⟨x, r, rfl, h1, h2⟩ := h
    rw [List.take_succ_cons, List.take_succ_cons]
    unfold Reps
    exact ⟨x, _, rfl, h1, Reps.take n h2⟩
theorem Reps.drop : ∀ {ds : List D} {xs : List V} (n : Nat), Reps K H B ds xs → Reps K H B (ds.drop n) (xs.drop n)
  | _, _, 0, h => h
  | [], _, _ + 1, h => by unfold Reps at h; subst h; unfold Reps; rfl
  | d :: ds, _, n + 1, h => by
    unfold Reps at h
    obtain ⟨x, r, rfl, h1, h2⟩ := h
    exact Reps.drop n h2
theorem Reps.one {d : D} {x : V} (h : Rep K H B d x) : Reps K H B [d] [x] := by unfold Reps; exact ⟨x, [], rfl, h, by unfold Reps; rfl⟩
theorem Reps.nil : Reps K H B [] [] := by unfold Reps; rfl
theorem Reps.cons {d : D} {x : V} {ds : List D} {xs : List V} (h : Rep K H B d x) (h' : Reps K H B ds xs) : Reps K H B (d :: ds) (x :: xs) := by unfold Reps; exact ⟨x, xs, rfl, h, h'⟩
theorem Reps.snoc {d : D} {x : V} {ds : List D} {xs : List V} (h' : Reps K H B ds xs) (h : Rep K H B d x) : Reps K H B (ds ++ [d]) (xs ++ [x]) := h'.append (.one h)
theorem Trees.nil : Trees K H [] [] [] := ⟨rfl, rfl⟩
theorem Trees.snoc : ∀ {ds : List D} {xs : List V} {A C : List Addr} {d : D} {x : V}, Trees K H ds xs A → Tree K H d x C → Trees K H (ds ++ [d]) (xs ++ [x]) (A ++ C)
  | [], _, _, C, d, x, h, h' => by
    obtain ⟨rfl, rfl⟩ := h
    exact (show Trees K H [d] [x] C by unfold Trees; exact ⟨x, [], C, [], rfl, h', ⟨rfl, rfl⟩, (List.append_nil _).symm⟩)
  | e :: ds, _, _, C, d, x, h, h' => by
    unfold Trees at h
    obtain ⟨y, r, A1, A2, rfl, h1, h2, rfl⟩ := h
    exact (show Trees K H (e :: (ds ++ [d])) (y :: (r ++ [x])) (A1 ++ A2 ++ C) by unfold Trees; exact ⟨y, _, A1, A2 ++ C, rfl, h1, Trees.snoc h2 h', List.append_assoc _ _ _⟩)
end
end L2

/-! ### E3: expressions by trees -/
namespace L2
open PySem PySem.Spec PyProof.Rows

abbrev DS := List (Option D)
abbrev DE := DS → Option D
structure RepS (K : PySem.W.Frag) (H : Hp) (B : Addr → Prop) (σ : St) (δ : DS) : Prop where
  len : δ.length = σ.length
  get : ∀ (i : Nat) (d : D), δ[i]? = some (some d) → ∃ v, σ[i]? = some (some v) ∧ Rep K H B d v
def InB (B : Addr → Prop) (H : Hp) : Prop := ∀ a, B a → ∃ o, H a = some o
def noB : Addr → Prop := fun _ => False
theorem InB.mono {B : Addr → Prop} {H H' : Hp} (h : InB B H) (e : Same H H') : InB B H' := fun a b => let ⟨o, q⟩ := h a b; ⟨o, e a o q⟩
theorem InB.no {H : Hp} : InB noB H := fun _ b => b.elim
theorem InB.fresh {B : Addr → Prop} {H : Hp} (h : InB B H) {a : Addr} (e : H a = none) : ¬ B a := fun b => by
  obtain ⟨o, q⟩ := h a b
  rw [e] at q; cases q
theorem RepS.mono {K : PySem.W.Frag} {H H' : Hp} {B : Addr → Prop} {σ : St} {δ : DS} (h : RepS K H B σ δ) (e : Same H H') : RepS K H' B σ δ :=
  ⟨h.len, fun i d q => let ⟨v, a, r⟩ := h.get i d q; ⟨v, a, r.mono e⟩⟩
theorem RepS.anti {K : PySem.W.Frag} {H : Hp} {B B' : Addr → Prop} {σ : St} {δ : DS} (h : RepS K H B σ δ) (e : ∀ a, B' a → B a) : RepS K H B' σ δ :=
  ⟨h.len, fun i d q => let ⟨v, a, r⟩ := h.get i d q; ⟨v, a, r.anti e⟩⟩

/-- an expression's tree: shared with what is there (D), a list just made (F), a tree all new (N); a test's bool (T); arguments (Ds) -/
def tD (K : PySem.W.Frag) (f : DE) : TE := fun σ H Q => ∃ B δ d, InB B H ∧ RepS K H B σ δ ∧ f δ = some d ∧ ∀ v H', Same H H' → Rep K H' B d v → Q v H'
def tF (K : PySem.W.Frag) (f : DS → Option (List D)) : TE := fun σ H Q => ∃ B δ ds, InB B H ∧ RepS K H B σ δ ∧ f δ = some ds ∧
  ∀ a xs H', Same H H' → H a = none → H' a = some (.lst xs) → Reps K H' B ds xs → Q (.ref a) H'
def tN (K : PySem.W.Frag) (f : DE) : TE := fun σ H Q => ∃ δ d, RepS K H noB σ δ ∧ f δ = some d ∧ ∀ v H' A, Same H H' → Tree K H' d v A → A.Nodup → (∀ a ∈ A, H a = none) → Q v H'
def tT (K : PySem.W.Frag) (f : DS → Option Bool) : TT := fun σ H Q => ∃ B δ b, InB B H ∧ RepS K H B σ δ ∧ f δ = some b ∧ ∀ H', Same H H' → Q b H'
def tDs (K : PySem.W.Frag) (f : DS → Option (List D)) : TA := fun σ H Q => ∃ B δ ds, InB B H ∧ RepS K H B σ δ ∧ f δ = some ds ∧ ∀ vs H', Same H H' → Reps K H' B ds vs → Q vs H'
abbrev PD (X : Cx) (e : Expr) (f : DE) : Prop := PE X e (tD X.K f)
abbrev PF (X : Cx) (e : Expr) (f : DS → Option (List D)) : Prop := PE X e (tF X.K f)
abbrev PN (X : Cx) (e : Expr) (f : DE) : Prop := PE X e (tN X.K f)
abbrev PTD (X : Cx) (e : Expr) (f : DS → Option Bool) : Prop := PT X e (tT X.K f)
abbrev PWD (X : Cx) (e : Expr) (f : DS → Option Bool) : Prop := PW X e (tT X.K f)

section
variable {X : Cx} {e a b c : Expr} {es : List Expr} {pos : Pos}
theorem PE.imp {t t' : TE} (h : PE X e t) (w : ∀ σ H Q, t' σ H Q → t σ H Q) : PE X e t' := fun pins s σ H Q I q => h pins s σ H Q I (w σ H Q q)
theorem PT.imp {t t' : TT} (h : PT X e t) (w : ∀ σ H Q, t' σ H Q → t σ H Q) : PT X e t' := fun pins s σ H Q I q => h pins s σ H Q I (w σ H Q q)
theorem PW.imp {t t' : TT} (h : PW X e t) (w : ∀ σ H Q, t' σ H Q → t σ H Q) : PW X e t' := fun wh pins s σ H Q I q => h wh pins s σ H Q I (w σ H Q q)
theorem PA.imp {t t' : TA} (h : PA X es t) (w : ∀ σ H Q, t' σ H Q → t σ H Q) : PA X es t' := fun po pins s σ H Q I q => h po pins s σ H Q I (w σ H Q q)

def mkL (f : DS → Option (List D)) : DE := fun δ => (f δ).map .lst
def mkFlat (f : DS → Option (List D)) : DE := fun δ => (f δ).bind fun ds => if imms ds = true then some (.lst ds) else none
def mkImm (f : DE) : DE := fun δ => (f δ).bind fun d => if d.imm = true then some d else none
theorem iDF {K : PySem.W.Frag} {f : DS → Option (List D)} : ∀ σ H Q, tD K (mkL f) σ H Q → tF K f σ H Q := fun σ H Q ⟨B, δ, d, hB, S, q, k⟩ => by
  unfold mkL at q
  cases r : f δ with
  | none => rw [r] at q; cases q
  | some ds =>
    rw [r] at q
    cases q
    exact ⟨B, δ, ds, hB, S, r, fun a xs H' s hn ha hr => k _ H' s (by unfold Rep; exact ⟨a, xs, rfl, hB.fresh hn, ha, hr⟩)⟩
theorem iDN {K : PySem.W.Frag} {f : DE} : ∀ σ H Q, tD K f σ H Q → tN K f σ H Q := fun σ H Q ⟨B, δ, d, hB, S, q, k⟩ =>
  ⟨δ, d, S.anti (fun _ z => z.elim), q, fun v H' A s t nd fr => k v H' s (t.rep d fun a ha => hB.fresh (fr a ha))⟩
theorem iNI {K : PySem.W.Frag} {f : DE} : ∀ σ H Q, tN K (mkImm f) σ H Q → tD K f σ H Q := fun σ H Q ⟨δ, d, S, q, k⟩ => by
  unfold mkImm at q
  cases r : f δ with
  | none => rw [r] at q; cases q
  | some d' =>
    rw [r] at q
    have q' : (if d'.imm = true then some d' else none) = some d := q
    by_cases hi : d'.imm = true
    · rw [if_pos hi] at q'
      cases q'
      exact ⟨noB, δ, d, .no, S, r, fun v H' s rv => k v H' [] s (rv.immTree d hi) List.nodup_nil (fun a ha => nomatch ha)⟩
    · rw [if_neg hi] at q'
      cases q'
theorem iNF {K : PySem.W.Frag} {f : DS → Option (List D)} : ∀ σ H Q, tN K (mkFlat f) σ H Q → tF K f σ H Q := fun σ H Q ⟨δ, d, S, q, k⟩ => by
  unfold mkFlat at q
  cases r : f δ with
  | none => rw [r] at q; cases q
  | some ds =>
    rw [r] at q
    have q' : (if imms ds = true then some (D.lst ds) else none) = some d := q
    split at q'
    · rename_i hi
      cases q'
      refine ⟨noB, δ, ds, .no, S, r, fun a xs H' s hn ha hr => k (.ref a) H' [a] s ?_ (List.nodup_cons.mpr ⟨(fun z => nomatch z), List.nodup_nil⟩) (fun b hb => by rw [List.mem_singleton.mp hb]; exact hn)⟩
      unfold Tree
      exact ⟨a, xs, [], rfl, ha, hr.immTree ds hi, rfl⟩
    · cases q'

theorem pd_F {f : DS → Option (List D)} (h : PF X e f) : PD X e (mkL f) := h.imp iDF
theorem pd_N {f : DE} (h : PN X e f) : PD X e f := h.imp iDN
theorem pn_I {f : DE} (h : PD X e f) : PN X e (mkImm f) := h.imp iNI
theorem pn_F {f : DS → Option (List D)} (h : PF X e f) : PN X e (mkFlat f) := h.imp iNF

/-! ### names, constants -/
def dVar (i : Nat) : DE := fun δ => (δ[i]?).bind id
def dC (d : D) : DE := fun _ => some d
theorem pd_v (i : Nat) {x : Str} {p : Pos} (h : PE X (.Name x p) (tVar i)) : PD X (.Name x p) (dVar i) := h.imp fun σ H Q ⟨B, δ, d, hB, S, q, k⟩ => by
  unfold dVar at q
  cases r : δ[i]? with
  | none => rw [r] at q; cases q
  | some o =>
    rw [r] at q
    have q' : o = some d := q
    subst q'
    obtain ⟨v, e, rv⟩ := S.get i d r
    exact ⟨v, e, k v H (.refl H) rv⟩
theorem pd_C {d : D} {v : V} (h : PE X e (tC v)) (r : ∀ K H B, Rep K H B d v) : PD X e (dC d) := h.imp fun σ H Q ⟨B, δ, d', hB, S, q, k⟩ => by
  cases q
  exact k v H (.refl H) (r _ _ _)
theorem pd_int {i j p} : PD X (.Constant (.int i) j p) (dC (.int i)) := pd_C pe_int fun _ _ _ => rfl
theorem pd_bl {i j p} : PD X (.Constant (.bool i) j p) (dC (.bl i)) := pd_C pe_bl fun _ _ _ => rfl
theorem pd_non {j p} : PD X (.Constant .none j p) (dC .non) := pd_C pe_non fun _ _ _ => rfl
theorem pd_str {i j p} : PD X (.Constant (.str i) j p) (dC (.str i)) := pd_C pe_str fun _ _ _ => rfl

/-! ### two parts -/
def d2 (F : D → D → Option D) (f g : DE) : DE := fun δ => (f δ).bind fun x => (g δ).bind fun y => F x y
theorem d2_some {F : D → D → Option D} {f g : DE} {δ : DS} {d : D} (h : d2 F f g δ = some d) : ∃ x y, f δ = some x ∧ g δ = some y ∧ F x y = some d := by
  unfold d2 at h
  cases hx : f δ with
  | none => rw [hx] at h; cases h
  | some x =>
    rw [hx] at h
    cases hy : g δ with
    | none =>
      have h' : ((g δ).bind fun y => F x y) = some d := h
      rw [hy] at h'; cases h'
    | some y =>
      have h' : ((g δ).bind fun y => F x y) = some d := h
      rw [hy] at h'
      exact ⟨x, y, rfl, rfl, h'⟩
/-- what a rule by values says by trees -/
def Op2 (K : PySem.W.Frag) (r : R2) (F : D → D → Option D) : Prop := ∀ (H : Hp) (B : Addr → Prop) (dx dy d : D) (x y : V) (Q : VK), InB B H → Rep K H B dx x → Rep K H B dy y → F dx dy = some d → (∀ v H', Same H H' → Rep K H' B d v → Q v H') → r x y H Q
theorem two_of {r : R2} {F : D → D → Option D} {f g : DE} (ho : Op2 X.K r F) (σ : St) (H : Hp) (Q : VK) (h : tD X.K (d2 F f g) σ H Q) : tOp r (tD X.K f) (tD X.K g) σ H Q := by
  obtain ⟨B, δ, d, hB, S, q, k⟩ := h
  obtain ⟨dx, dy, e1, e2, e3⟩ := d2_some q
  exact ⟨B, δ, dx, hB, S, e1, fun v H1 s1 r1 => ⟨B, δ, dy, hB.mono s1, S.mono s1, e2, fun u H2 s2 r2 =>
    ho H2 B dx dy d v u Q ((hB.mono s1).mono s2) (r1.mono s2) r2 e3 fun z H' s' rz => k z H' ((s1.trans s2).trans s') rz⟩⟩
theorem pd_op {op : Operator} {r : R2} {F : D → D → Option D} {f g : DE} (ho : OpR X (binaryOp op) r) (hD : Op2 X.K r F) (ha : PD X a f) (hb : PD X b g) : PD X (.BinOp a op b pos) (d2 F f g) := (pe_op ho ha hb).imp (two_of hD)
theorem pd_cmp {op : CmpOp} {r : R2} {F : D → D → Option D} {f g : DE} (ho : OpR X (compareOp op) r) (hD : Op2 X.K r F) (ha : PD X a f) (hb : PD X b g) (hm : behindInMarks op b = false) : PD X (.Compare a [op] [b] pos) (d2 F f g) := (pe_cmpR ho ha hb hm).imp (two_of hD)
def dTest (f : DE) : DS → Option Bool := fun δ => match f δ with
  | some (.bl b) => some b
  | _ => none
theorem dTest_some {f : DE} {δ : DS} {b : Bool} (h : dTest f δ = some b) : f δ = some (.bl b) := by
  unfold dTest at h
  split at h
  · rename_i b' e
    cases h; exact e
  · cases h
theorem test_of {t : TE} {f : DE} (h : ∀ σ H Q, tD X.K f σ H Q → t σ H Q) (σ : St) (H : Hp) (Q : Bool → Hp → Prop) (q : tT X.K (dTest f) σ H Q) : tTest t σ H Q := by
  obtain ⟨B, δ, b, hB, S, q, k⟩ := q
  refine h σ H _ ⟨B, δ, .bl b, hB, S, dTest_some q, fun v H' s r => ?_⟩
  exact ⟨b, r, k H' s⟩
theorem pt_cmpD {op : CmpOp} {r : R2} {F : D → D → Option D} {f g : DE} (ho : OpR X (compareOp op) r) (hD : Op2 X.K r F) (ha : PD X a f) (hb : PD X b g) (hm : behindInMarks op b = false) : PTD X (.Compare a [op] [b] pos) (dTest (d2 F f g)) := (pt_cmpR ho ha hb hm).imp (test_of (two_of hD))
def dChain (F G : D → D → Option D) (f g h : DE) : DE := fun δ => (f δ).bind fun x => (g δ).bind fun y => match F x y with
  | some (.bl true) => (h δ).bind fun z => G y z
  | some (.bl false) => some (.bl false)
  | _ => none
theorem chain_of {r r' : R2} {F G : D → D → Option D} {f g h : DE} (ho : Op2 X.K r F) (ho' : Op2 X.K r' G) (σ : St) (H : Hp) (Q : VK) (q : tD X.K (dChain F G f g h) σ H Q) : tChain r r' (tD X.K f) (tD X.K g) (tD X.K h) σ H Q := by
  obtain ⟨B, δ, d, hB, S, q, k⟩ := q
  unfold dChain at q
  cases e1 : f δ with
  | none => rw [e1] at q; cases q
  | some x =>
    rw [e1] at q
    cases e2 : g δ with
    | none =>
      have q' : ((g δ).bind _) = some d := q
      rw [e2] at q'; cases q'
    | some y =>
      have q' : ((g δ).bind _) = some d := q
      rw [e2] at q'
      have q2 : (match F x y with | some (.bl true) => (h δ).bind fun z => G y z | some (.bl false) => some (.bl false) | _ => none) = some d := q'
      refine ⟨B, δ, x, hB, S, e1, fun v H1 s1 r1 => ⟨B, δ, y, hB.mono s1, S.mono s1, e2, fun u H2 s2 r2 => ?_⟩⟩
      split at q2
      · rename_i e3
        refine ho H2 B x y _ v u _ ((hB.mono s1).mono s2) (r1.mono s2) r2 e3 fun z H3 s3 r3 => ⟨true, r3, ?_⟩
        rw [if_pos rfl]
        cases e4 : h δ with
        | none => rw [e4] at q2; cases q2
        | some w =>
          rw [e4] at q2
          have q4 : G y w = some d := q2
          refine ⟨B, δ, w, ((hB.mono s1).mono s2).mono s3, ((S.mono s1).mono s2).mono s3, e4, fun t H4 s4 r4 => ?_⟩
          exact ho' H4 B y w d u t Q ((((hB.mono s1).mono s2).mono s3).mono s4) ((r2.mono s3).mono s4) r4 q4 fun z' H' s' rz => k z' H' ((((s1.trans s2).trans s3).trans s4).trans s') rz
      · rename_i e3
        cases q2
        refine ho H2 B x y _ v u _ ((hB.mono s1).mono s2) (r1.mono s2) r2 e3 fun z H3 s3 r3 => ⟨false, r3, ?_⟩
        rw [if_neg Bool.false_ne_true]
        exact k _ H3 ((s1.trans s2).trans s3) rfl
      · cases q2
theorem pd_chain {op op' : CmpOp} {r r' : R2} {F G : D → D → Option D} {f g h : DE} (ho : OpR X (compareOp op) r) (ho' : OpR X (compareOp op') r') (hF : Op2 X.K r F) (hG : Op2 X.K r' G) (ha : PD X a f) (hb : PD X b g) (hc : PD X c h)
    (hm : lastMarks [op, op'] [b, c] = false := by with_unfolding_all rfl) : PD X (.Compare a [op, op'] [b, c] pos) (dChain F G f g h) := (pe_chain ho ho' ha hb hc hm).imp (chain_of hF hG)
theorem pt_chainD {op op' : CmpOp} {r r' : R2} {F G : D → D → Option D} {f g h : DE} (ho : OpR X (compareOp op) r) (ho' : OpR X (compareOp op') r') (hF : Op2 X.K r F) (hG : Op2 X.K r' G) (ha : PD X a f) (hb : PD X b g) (hc : PD X c h)
    (hm : lastMarks [op, op'] [b, c] = false := by with_unfolding_all rfl) : PTD X (.Compare a [op, op'] [b, c] pos) (dTest (dChain F G f g h)) := (pt_chain ho ho' ha hb hc hm).imp (test_of (chain_of hF hG))

/-! ### ints -/
def iop (F : Int → Int → Option D) : D → D → Option D
  | .int i, .int j => F i j
  | _, _ => none
theorem iop_some {F : Int → Int → Option D} {x y d : D} (h : iop F x y = some d) : ∃ i j, x = .int i ∧ y = .int j ∧ F i j = some d := by
  unfold iop at h
  split at h
  · exact ⟨_, _, rfl, rfl, h⟩
  · cases h
theorem o2_int {K : PySem.W.Frag} {C : Int → Int → Prop} [∀ i j, Decidable (C i j)] {g : Int → Int → Int} : Op2 K (rI C fun i j => .int (g i j)) (iop fun i j => if C i j then some (.int (g i j)) else none) := by
  intro H B dx dy d x y Q hB hx hy q k
  obtain ⟨i, j, rfl, rfl, q2⟩ := iop_some q
  by_cases hc : C i j
  · rw [if_pos hc] at q2
    cases q2
    exact ⟨i, j, hx, hy, hc, k _ H (.refl H) rfl⟩
  · rw [if_neg hc] at q2
    cases q2
theorem o2_int0 {K : PySem.W.Frag} {g : Int → Int → Int} : Op2 K (rI0 fun i j => .int (g i j)) (iop fun i j => some (.int (g i j))) := by
  intro H B dx dy d x y Q hB hx hy q k
  obtain ⟨i, j, rfl, rfl, q2⟩ := iop_some q
  cases q2
  exact ⟨i, j, hx, hy, k _ H (.refl H) rfl⟩
theorem o2_bool0 {K : PySem.W.Frag} {g : Int → Int → Bool} : Op2 K (rI0 fun i j => .bl (g i j)) (iop fun i j => some (.bl (g i j))) := by
  intro H B dx dy d x y Q hB hx hy q k
  obtain ⟨i, j, rfl, rfl, q2⟩ := iop_some q
  cases q2
  exact ⟨i, j, hx, hy, k _ H (.refl H) rfl⟩
theorem Op2.or {K : PySem.W.Frag} {r r' : R2} {F G : D → D → Option D} (h : Op2 K r F) (h' : Op2 K r' G) : Op2 K (fun x y H Q => r x y H Q ∨ r' x y H Q) (fun x y => (F x y).orElse fun _ => G x y) := by
  intro H B dx dy d x y Q hB hx hy q k
  cases e : F dx dy with
  | some d' =>
    have q' : (F dx dy).orElse (fun _ => G dx dy) = some d := q
    rw [e] at q'
    cases q'
    exact .inl (h H B dx dy _ x y Q hB hx hy e k)
  | none =>
    have q' : (F dx dy).orElse (fun _ => G dx dy) = some d := q
    rw [e] at q'
    exact .inr (h' H B dx dy d x y Q hB hx hy q' k)

/-! ### one part -/
def d1 (F : D → Option D) (f : DE) : DE := fun δ => (f δ).bind F
theorem d1_some {F : D → Option D} {f : DE} {δ : DS} {d : D} (h : d1 F f δ = some d) : ∃ x, f δ = some x ∧ F x = some d := by
  unfold d1 at h
  cases hx : f δ with
  | none => rw [hx] at h; cases h
  | some x => rw [hx] at h; exact ⟨x, rfl, h⟩
def uNeg : D → Option D
  | .int i => some (.int (-i))
  | _ => none
theorem pd_neg {f : DE} (h : PD X a f) : PD X (.UnaryOp .USub a pos) (d1 uNeg f) := (pe_un un_neg h).imp fun σ H Q ⟨B, δ, d, hB, S, q, k⟩ => by
  obtain ⟨x, e1, e2⟩ := d1_some q
  refine ⟨B, δ, x, hB, S, e1, fun v H' s r => ?_⟩
  unfold uNeg at e2
  split at e2
  · cases e2
    exact ⟨_, r, k _ H' s rfl⟩
  · cases e2

/-! ### and, or, not, if -/
def truthD : D → Option Bool
  | .non => some false
  | .bl b => some b
  | .int i => some (i != 0)
  | .str x => if x.length ≤ sizeLine then some ((x.length : Int) != 0) else none
  | .lst ds => some (!ds.isEmpty)
  | .tup ds => some (!ds.isEmpty)
  | .scr ns => some (!ns.isEmpty)
  | .dct ks _ => some (!ks.isEmpty)
  | .exc _ => none
  | .obj _ _ _ _ => none
def dTruth (f : DE) : DS → Option Bool := fun δ => (f δ).bind truthD
theorem empty_eq {K : PySem.W.Frag} {H : Hp} {B : Addr → Prop} {ds : List D} {xs : List V} (h : Reps K H B ds xs) : (!ds.isEmpty) = !xs.isEmpty := by
  have := h.length
  cases ds <;> cases xs <;> simp_all
theorem truth_rep {K : PySem.W.Frag} {H : Hp} {B : Addr → Prop} {d : D} {v : V} {k : Bool} (h : Rep K H B d v) (e : truthD d = some k) : TruV K v H k := by
  cases d with
  | non => cases h; cases e; rfl
  | bl b => cases h; cases e; rfl
  | int i => cases h; cases e; rfl
  | str x =>
    cases h
    have e' : (if x.length ≤ sizeLine then some ((x.length : Int) != 0) else none) = some k := e
    by_cases hl : x.length ≤ sizeLine
    · rw [if_pos hl] at e'
      cases e'
      exact ⟨hl, rfl⟩
    · rw [if_neg hl] at e'
      cases e'
  | lst ds =>
    unfold Rep at h
    obtain ⟨a, xs, rfl, _, s, r⟩ := h
    cases e
    exact .inl ⟨xs, SqL.of s, empty_eq r⟩
  | tup ds =>
    unfold Rep at h
    obtain ⟨a, xs, rfl, s, r⟩ := h
    cases e
    exact .inr (.inl ⟨xs, s, empty_eq r⟩)
  | scr ns =>
    unfold Rep at h
    obtain ⟨a, rfl, s⟩ := h
    cases e
    exact .inl ⟨_, s.sq, by cases ns <;> rfl⟩
  | dct ks ds =>
    unfold Rep at h
    obtain ⟨a, kvs, rfl, _, s, q, r⟩ := h
    cases e
    refine .inr (.inr ⟨kvs, s, ?_⟩)
    rw [← q]
    cases kvs <;> rfl
  | exc _ => cases e
  | obj _ _ _ _ => cases e
theorem pt_truthD {f : DE} (h : PD X a f) (he : ∀ whole, isTrue a X.env whole = (do let v ← whole; standAt a.pos; holding [v] (truthy v)) := by intro _; rfl) : PTD X a (dTruth f) := (pt_truth h he).imp fun σ H Q ⟨B, δ, k, hB, S, q, kk⟩ => by
  unfold dTruth at q
  cases e : f δ with
  | none => rw [e] at q; cases q
  | some d =>
    rw [e] at q
    exact ⟨B, δ, d, hB, S, e, fun v H' s r => ⟨k, truth_rep r q, kk H' s⟩⟩
def dAndT (f g : DS → Option Bool) : DS → Option Bool := fun δ => (f δ).bind fun c => if c = true then g δ else some false
def dOrT (f g : DS → Option Bool) : DS → Option Bool := fun δ => (f δ).bind fun c => if c = true then some true else g δ
def dNotT (f : DS → Option Bool) : DS → Option Bool := fun δ => (f δ).map (!·)
theorem pw_and1D {f : DS → Option Bool} (h : PTD X a f) : PWD X (.BoolOp .And [a] pos) f := pw_and1 h
theorem pw_or1D {f : DS → Option Bool} (h : PTD X a f) : PWD X (.BoolOp .Or [a] pos) f := pw_or1 h
theorem pw_andD {rest : List Expr} {f g : DS → Option Bool} (ha : PTD X a f) (hb : PWD X (.BoolOp .And (b :: rest) pos) g) : PWD X (.BoolOp .And (a :: b :: rest) pos) (dAndT f g) := (pw_and ha hb).imp fun σ H Q ⟨B, δ, k, hB, S, q, kk⟩ => by
  unfold dAndT at q
  cases e : f δ with
  | none => rw [e] at q; cases q
  | some c =>
    rw [e] at q
    refine ⟨B, δ, c, hB, S, e, fun H1 s1 => ?_⟩
    have q' : (if c = true then g δ else some false) = some k := q
    cases c with
    | true =>
      rw [if_pos rfl] at q'
      refine iteT ?_
      exact ⟨B, δ, k, hB.mono s1, S.mono s1, q', fun H2 s2 => kk H2 (s1.trans s2)⟩
    | false =>
      rw [if_neg Bool.false_ne_true] at q'
      refine iteF ?_
      cases q'
      exact kk H1 s1
theorem pw_orD {rest : List Expr} {f g : DS → Option Bool} (ha : PTD X a f) (hb : PWD X (.BoolOp .Or (b :: rest) pos) g) : PWD X (.BoolOp .Or (a :: b :: rest) pos) (dOrT f g) := (pw_or ha hb).imp fun σ H Q ⟨B, δ, k, hB, S, q, kk⟩ => by
  unfold dOrT at q
  cases e : f δ with
  | none => rw [e] at q; cases q
  | some c =>
    rw [e] at q
    refine ⟨B, δ, c, hB, S, e, fun H1 s1 => ?_⟩
    have q' : (if c = true then some true else g δ) = some k := q
    cases c with
    | true =>
      rw [if_pos rfl] at q'
      refine iteT ?_
      cases q'
      exact kk H1 s1
    | false =>
      rw [if_neg Bool.false_ne_true] at q'
      refine iteF ?_
      exact ⟨B, δ, k, hB.mono s1, S.mono s1, q', fun H2 s2 => kk H2 (s1.trans s2)⟩
theorem pt_notD {f : DS → Option Bool} (h : PTD X a f) : PTD X (.UnaryOp .Not a pos) (dNotT f) := (pt_not h).imp fun σ H Q ⟨B, δ, k, hB, S, q, kk⟩ => by
  unfold dNotT at q
  cases e : f δ with
  | none => rw [e] at q; cases q
  | some c =>
    rw [e] at q
    cases q
    exact ⟨B, δ, c, hB, S, e, kk⟩
def dAnd (f g : DE) : DE := fun δ => match f δ with
  | some (.bl true) => g δ
  | some (.bl false) => some (.bl false)
  | _ => none
def dOr (f g : DE) : DE := fun δ => match f δ with
  | some (.bl true) => some (.bl true)
  | some (.bl false) => g δ
  | _ => none
def uNot : D → Option D
  | .bl b => some (.bl (!b))
  | _ => none
theorem pd_one {op} {f : DE} (h : PD X a f) : PD X (.BoolOp op [a] pos) f := pe_one h
theorem pd_and {rest : List Expr} {f g : DE} (ha : PD X a f) (hb : PD X (.BoolOp .And (b :: rest) pos) g) : PD X (.BoolOp .And (a :: b :: rest) pos) (dAnd f g) := (pe_and ha hb).imp fun σ H Q ⟨B, δ, d, hB, S, q, k⟩ => by
  unfold dAnd at q
  split at q
  · rename_i e
    refine ⟨B, δ, .bl true, hB, S, e, fun v H1 s1 r => ⟨true, r, ?_⟩⟩
    rw [if_pos rfl]
    exact ⟨B, δ, d, hB.mono s1, S.mono s1, q, fun v2 H2 s2 r2 => k v2 H2 (s1.trans s2) r2⟩
  · rename_i e
    cases q
    refine ⟨B, δ, .bl false, hB, S, e, fun v H1 s1 r => ⟨false, r, ?_⟩⟩
    rw [if_neg Bool.false_ne_true]
    exact k _ H1 s1 rfl
  · cases q
theorem pd_not {f : DE} (h : PD X a f) : PD X (.UnaryOp .Not a pos) (d1 uNot f) := (pe_not h).imp fun σ H Q ⟨B, δ, d, hB, S, q, k⟩ => by
  obtain ⟨x, e1, e2⟩ := d1_some q
  refine ⟨B, δ, x, hB, S, e1, fun v H' s r => ?_⟩
  unfold uNot at e2
  split at e2
  · cases e2
    exact ⟨_, r, k _ H' s rfl⟩
  · cases e2
def dIf (c : DS → Option Bool) (f g : DE) : DE := fun δ => (c δ).bind fun k => if k = true then f δ else g δ

/-! ### arguments, displays -/
def dArgs : List DE → DS → Option (List D)
  | [], _ => some []
  | f :: r, δ => (f δ).bind fun x => (dArgs r δ).bind fun xs => some (x :: xs)
theorem dArgs_some {f : DE} {r : List DE} {δ : DS} {ds : List D} (h : dArgs (f :: r) δ = some ds) : ∃ x xs, f δ = some x ∧ dArgs r δ = some xs ∧ ds = x :: xs := by
  unfold dArgs at h
  cases hx : f δ with
  | none => rw [hx] at h; cases h
  | some x =>
    rw [hx] at h
    have h' : ((dArgs r δ).bind fun xs => some (x :: xs)) = some ds := h
    cases hy : dArgs r δ with
    | none => rw [hy] at h'; cases h'
    | some xs =>
      rw [hy] at h'
      cases h'
      exact ⟨x, xs, rfl, rfl, rfl⟩
theorem dArgs_length : ∀ {fl : List DE} {δ : DS} {ds : List D}, dArgs fl δ = some ds → ds.length = fl.length
  | [], _, _, h => by cases h; rfl
  | f :: r, δ, ds, h => by
    obtain ⟨x, xs, _, e, rfl⟩ := dArgs_some h
    simp [dArgs_length e]
abbrev PAD (X : Cx) (es : List Expr) (fl : List DE) : Prop := PA X es (tDs X.K (dArgs fl))
theorem pad_nil : PAD X [] [] := pa_nil.imp fun σ H Q ⟨B, δ, ds, hB, S, q, k⟩ => by
  cases q
  exact k [] H (.refl H) .nil
theorem pad_cons {f : DE} {fl : List DE} (ha : PD X e f) (hr : PAD X es fl) (hs : starEach (e :: es) X.env = (false, eval e X.env) :: starEach es X.env := by rfl) : PAD X (e :: es) (f :: fl) := (pa_cons ha hr hs).imp fun σ H Q ⟨B, δ, ds, hB, S, q, k⟩ => by
  obtain ⟨x, xs, e1, e2, rfl⟩ := dArgs_some q
  exact ⟨B, δ, x, hB, S, e1, fun v H1 s1 r1 => ⟨B, δ, xs, hB.mono s1, S.mono s1, e2, fun vs H2 s2 r2 => k (v :: vs) H2 (s1.trans s2) (.cons (r1.mono s2) r2)⟩⟩
theorem pf_list {fl : List DE} (h : PAD X es fl) (hl : fl.length ≤ 1000 := by decide) : PF X (.List es pos) (dArgs fl) := (pe_lst h).imp fun σ H Q ⟨B, δ, ds, hB, S, q, k⟩ => by
  refine ⟨B, δ, ds, hB, S, q, fun vs H1 s1 r1 => ⟨?_, fun p hp => ?_⟩⟩
  · rw [← r1.length, dArgs_length q]
    exact Nat.le_of_lt (small1000 hl)
  · exact k p vs _ (s1.trans (same_upd hp)) (s1.free hp) upd_same (r1.mono (same_upd hp))
def mkT (f : DS → Option (List D)) : DE := fun δ => (f δ).map .tup
theorem pd_tup {x1} {fl : List DE} (h : PAD X es fl) (hl : fl.length ≤ 1000 := by decide) : PD X (.Tuple es x1 pos) (mkT (dArgs fl)) := (pe_tup h).imp fun σ H Q ⟨B, δ, d, hB, S, q, k⟩ => by
  unfold mkT at q
  cases r : dArgs fl δ with
  | none => rw [r] at q; cases q
  | some ds =>
    rw [r] at q
    cases q
    refine ⟨B, δ, ds, hB, S, r, fun vs H1 s1 r1 => ⟨?_, fun p hp => ?_⟩⟩
    · rw [← r1.length, dArgs_length r]
      exact Nat.le_of_lt (small1000 hl)
    · refine k _ _ (s1.trans (same_upd hp)) ?_
      unfold Rep
      exact ⟨p, vs, rfl, SqT.of upd_same, r1.mono (same_upd hp)⟩

/-! ### xs[i], slices -/
def ixD : D → D → Option D
  | .lst ds, .int i => atI ds i
  | .tup ds, .int i => atI ds i
  | .scr ns, .int i => (atI ns i).map .int
  | _, _ => none
theorem atI_map {α β : Type} (f : α → β) (xs : List α) (i : Int) : atI (xs.map f) i = (atI xs i).map f := by
  unfold atI
  rw [List.length_map]
  cases ixN xs.length i with
  | none => rfl
  | some j => simp
theorem atI_reps {K : PySem.W.Frag} {H : Hp} {B : Addr → Prop} {ds : List D} {xs : List V} {i : Int} {d : D} (h : Reps K H B ds xs) (e : atI ds i = some d) : ∃ x, atI xs i = some x ∧ Rep K H B d x := by
  unfold atI at e ⊢
  rw [← h.length]
  cases q : ixN ds.length i with
  | none => rw [q] at e; cases e
  | some j =>
    rw [q] at e
    exact h.get e
theorem o2_ix {K : PySem.W.Frag} : Op2 K (rIx K) ixD := by
  intro H B dx dy d x y Q hB hx hy q k
  unfold ixD at q
  split at q
  · unfold Rep at hx
    obtain ⟨a, xs, rfl, _, s, r⟩ := hx
    obtain ⟨v, e, rv⟩ := atI_reps r q
    exact .inl ⟨a, xs, _, v, rfl, hy, SqL.of s, e, k v H (.refl H) rv⟩
  · unfold Rep at hx
    obtain ⟨a, xs, rfl, s, r⟩ := hx
    obtain ⟨v, e, rv⟩ := atI_reps r q
    exact .inr (.inl ⟨a, xs, _, v, rfl, hy, s, e, k v H (.refl H) rv⟩)
  · rename_i ns i
    unfold Rep at hx
    obtain ⟨a, rfl, s⟩ := hx
    cases e : atI ns i with
    | none => rw [e] at q; cases q
    | some n =>
      rw [e] at q
      cases q
      exact .inl ⟨a, _, _, .int n, rfl, hy, s.sq, by rw [atI_map, e]; rfl, k _ H (.refl H) rfl⟩
  · cases q
theorem pd_ix {f g : DE} (ha : PD X a f) (hb : PD X b g) (hs : PlainIx b := by intro _ _; rfl) : PD X (.Subscript a b pos) (d2 ixD f g) := (pe_ix ix_seq ha hb hs).imp (two_of o2_ix)

/-! ### a call of the text's own def -/
def spN (K : PySem.W.Frag) (F : List D → Option D) : Sp := fun vs H Q _ => ∃ ds d, Reps K H noB ds vs ∧ F ds = some d ∧ ∀ v H' A, Same H H' → Tree K H' d v A → A.Nodup → (∀ a ∈ A, H a = none) → Q v H'
structure DefOk (P : Program) (w : World) (K : PySem.W.Frag) (mg : Str → Option Value) (base : Heap) (k : Nat) (x : Str) (sp : Sp) : Prop where
  ok : ∃ (f : Addr) (fd : FuncData) (ps : List Str), mg x = some (.ref f) ∧ PySem.W.keepIn K (.ref f) = true ∧ Binds K fd ps [] ∧ FnOk P w K mg base CX0 k f fd ps sp
def dCall (F : List D → Option D) (fl : List DE) : DE := fun δ => (dArgs fl δ).bind F
theorem dCall_some {F : List D → Option D} {fl : List DE} {δ : DS} {d : D} (h : dCall F fl δ = some d) : ∃ ds, dArgs fl δ = some ds ∧ F ds = some d := by
  unfold dCall at h
  cases q : dArgs fl δ with
  | none => rw [q] at h; cases h
  | some ds => rw [q] at h; exact ⟨ds, rfl, h⟩
end
end L2

/-! ### E4: calls, walks and comprehensions by trees -/
namespace L2
open PySem PySem.Spec PyProof.Rows
section
variable {X : Cx} {e a b c : Expr} {es : List Expr} {pos p : Pos} {x : Str} {k : Nat} {tg iter elt : Expr}

/-! ### calls of the text's own defs -/
theorem pe_callD {sp : Sp} {t : TA} (G : DefOk X.prog X.w X.K X.mg X.base k x sp) (hr : Room k X.A) (hg : Gl X x) (ha : PA X (e :: es) t) (hdb : (x == ("__debug__" : Str)) = false := by decide)
    (he : starEach (e :: es) X.env = (false, eval e X.env) :: starEach es X.env := by rfl) (hpl : (backTo pos (starEach es X.env)).any (·.1) = false := by rfl) : PE X (.Call (.Name x p) (e :: es) [] pos) (tCall sp [] E0 t) := by
  obtain ⟨f, fd, ps, hm, hk, hb, ok⟩ := G.ok
  exact pe_call ok hr hg hm hk hb .nil pass0 ha hdb he hpl
theorem pn_callN {F : List D → Option D} {fl : List DE} (G : DefOk X.prog X.w X.K X.mg X.base k x (spN X.K F)) (hr : Room k X.A) (hg : Gl X x) (ha : PAD X (e :: es) fl) (hdb : (x == ("__debug__" : Str)) = false := by decide)
    (he : starEach (e :: es) X.env = (false, eval e X.env) :: starEach es X.env := by rfl) (hpl : (backTo pos (starEach es X.env)).any (·.1) = false := by rfl) : PN X (.Call (.Name x p) (e :: es) [] pos) (dCall F fl) :=
  (pe_callD G hr hg ha hdb he hpl).imp fun σ H Q ⟨δ, d, S, q, k⟩ => by
    obtain ⟨ds, e1, e2⟩ := dCall_some q
    refine ⟨noB, δ, ds, .no, S, e1, fun vs H1 s1 r1 => ?_⟩
    show spN X.K F (vs ++ []) H1 Q E0
    rw [List.append_nil]
    exact ⟨ds, d, r1, e2, fun v H' A s' t nd fr => k v H' A (s1.trans s') t nd fun a ha => s1.free (fr a ha)⟩

/-! ### what is walked, by trees -/
structure ItD (K : PySem.W.Frag) (J : It) (H : Hp) (B : Addr → Prop) (ds : List D) : Prop where
  go : ∀ i H', Keep K B H H' → i < ds.length → J.go i H'
  stop : ∀ i H', Keep K B H H' → ds.length ≤ i → J.stop i H'
  yld : ∀ i H' x H2, Keep K B H H' → J.yld i H' x H2 → Same H' H2 ∧ ∃ d, (i < ds.length → ds[i]? = some d) ∧ Rep K H2 B d x
/-- also where what is not there yet is not gone through -/
def ItW (K : PySem.W.Frag) (J : It) (H : Hp) (B : Addr → Prop) (ds : List D) : Prop := ∀ C : Addr → Prop, (∀ a, C a → H a = none) → ItD K J H (fun a => B a ∨ C a) ds
def tI (K : PySem.W.Frag) (f : DS → Option (List D)) : TI := fun σ H R => ∃ B δ ds, InB B H ∧ RepS K H B σ δ ∧ f δ = some ds ∧ ∀ J H', Same H H' → ItW K J H' B ds → R J H'
abbrev PID (X : Cx) (tg iter : Expr) (f : DS → Option (List D)) : Prop := PI X tg iter (tI X.K f)
theorem PI.imp {wi wi' : TI} (h : PI X tg iter wi) (w : ∀ σ H R, wi' σ H R → wi σ H R) : PI X tg iter wi' := fun pins s σ H R I q => h pins s σ H R I (w σ H R q)
/-- a list or a tuple -/
def iSeq (K : PySem.W.Frag) (tl : TE) : TI := fun σ H R => tl σ H fun x H1 => ∃ a, x = .ref a ∧ (((∃ xs, SqL K H1 a xs) ∧ R (Itl K a) H1) ∨ ((∃ xs, SqT K H1 a xs) ∧ R (Itt K a) H1))
theorem pi_seq {l : Expr} {tl : TE} (hl : PE X l tl) : PI X tg l (iSeq X.K tl) := by
  intro pins s σ H R I h
  refine thn (hl pins s σ H _ I h) fun v s1 ⟨x, H1, I1, r1, q1⟩ => ?_
  obtain ⟨a, e, q1⟩ := q1
  subst e
  cases r1
  have fp : ∀ b ∈ [s1.heap.objs.size], FpOk X pins H1 b := fun b hb => by
    have e : b = s1.heap.objs.size := by simpa using hb
    subst e
    exact I1.fpOk (Nat.le_refl _) (I1.hok.fresh (Nat.le_refl _))
  rcases q1 with ⟨⟨xs, hq⟩, q⟩ | ⟨⟨xs, hq⟩, q⟩
  · obtain ⟨its, rv, p, hz⟩ := I1.list hq
    refine wpAny_pyIter_list p.isList ?_
    exact ⟨s1.heap.objs.size, [s1.heap.objs.size], _, _, H1, rfl, I1.kept (t' := s1.toks) fun b o e => Heap.get?_push_of_some _ e, turn_list a _, ⟨_, Heap.get?_push_size _ rfl, rfl, rfl⟩, fp, q⟩
  · obtain ⟨its, rv, p, hz⟩ := I1.tuple hq
    refine wpAny_pyIter_tuple (show s1.heap.IsTuple a its.toArray from p) ?_
    exact ⟨s1.heap.objs.size, [s1.heap.objs.size], _, _, H1, rfl, I1.kept (t' := s1.toks) fun b o e => Heap.get?_push_of_some _ e, turn_tuple a _, ⟨_, Heap.get?_push_size _ rfl, rfl, rfl⟩, fp, q⟩
def seqD : D → Option (List D)
  | .lst ds => some ds
  | .tup ds => some ds
  | .scr ns => some (ns.map .int)
  | _ => none
def dSeq (f : DE) : DS → Option (List D) := fun δ => (f δ).bind seqD
theorem itd_list {K : PySem.W.Frag} {H : Hp} {B : Addr → Prop} {a : Addr} {xs : List V} {ds : List D} (n : ¬ B a) (h : H a = some (.lst xs)) (r : Reps K H B ds xs) : ItD K (Itl K a) H B ds := by
  have hl := r.length
  refine ⟨fun i H' kp hi => ?_, fun i H' kp hi => ?_, fun i H' x H2 kp y => ?_⟩
  · exact ⟨xs, xs[i], SqL.of (kp.sl a xs n h), by rw [List.getElem?_eq_getElem]⟩
  · exact ⟨xs, SqL.of (kp.sl a xs n h), by omega⟩
  · obtain ⟨e, y⟩ := y
    subst e
    have hx := y xs (SqL.of (kp.sl a xs n h))
    obtain ⟨d, e, rd⟩ := (Reps.keep kp ds r).get' hx
    exact ⟨.refl _, d, fun _ => e, rd⟩
theorem itd_tup {K : PySem.W.Frag} {H : Hp} {B : Addr → Prop} {a : Addr} {xs : List V} {ds : List D} (h : SqT K H a xs) (r : Reps K H B ds xs) : ItD K (Itt K a) H B ds := by
  have hl := r.length
  refine ⟨fun i H' kp hi => ?_, fun i H' kp hi => ?_, fun i H' x H2 kp y => ?_⟩
  · exact ⟨xs, xs[i], kp.st a xs h, by rw [List.getElem?_eq_getElem]⟩
  · exact ⟨xs, kp.st a xs h, by omega⟩
  · obtain ⟨e, y⟩ := y
    subst e
    have hx := y xs (kp.st a xs h)
    obtain ⟨d, e, rd⟩ := (Reps.keep kp ds r).get' hx
    exact ⟨.refl _, d, fun _ => e, rd⟩
theorem reps_ints {K : PySem.W.Frag} {H : Hp} {B : Addr → Prop} : ∀ ns : List Int, Reps K H B (ns.map D.int) (ns.map V.int)
  | [] => .nil
  | n :: ns => .cons rfl (reps_ints ns)
theorem itd_scr {K : PySem.W.Frag} {H : Hp} {B : Addr → Prop} {a : Addr} {ns : List Int} (h : SqF K H a (ns.map V.int)) : ItD K (Itl K a) H B (ns.map D.int) := by
  have r : ∀ H', Reps K H' B (ns.map D.int) (ns.map V.int) := fun _ => reps_ints ns
  refine ⟨fun i H' kp hi => ?_, fun i H' kp hi => ?_, fun i H' x H2 kp y => ?_⟩
  · exact ⟨ns.map V.int, (ns.map V.int)[i]'(by simpa using hi), (kp.sf a _ h).sq, by rw [List.getElem?_eq_getElem]⟩
  · exact ⟨ns.map V.int, (kp.sf a _ h).sq, by simpa using hi⟩
  · obtain ⟨e, y⟩ := y
    subst e
    have hx := y _ (kp.sf a _ h).sq
    obtain ⟨d, e, rd⟩ := (r _).get' hx
    exact ⟨.refl _, d, fun _ => e, rd⟩
theorem pi_seqD {l : Expr} {f : DE} (h : PD X l f) : PID X tg l (dSeq f) := (pi_seq h).imp fun σ H R ⟨B, δ, ds, hB, S, q, k⟩ => by
  unfold dSeq at q
  cases e : f δ with
  | none => rw [e] at q; cases q
  | some d =>
    rw [e] at q
    have q' : seqD d = some ds := q
    refine ⟨B, δ, d, hB, S, e, fun v H1 s1 r1 => ?_⟩
    unfold seqD at q'
    split at q'
    · cases q'
      unfold Rep at r1
      obtain ⟨a, xs, rfl, n, h, r⟩ := r1
      exact ⟨a, rfl, .inl ⟨⟨xs, SqL.of h⟩, k _ H1 s1 fun C hC => itd_list (fun z => z.elim n fun z => by rw [hC a z] at h; cases h) h (Reps.wide hC _ r)⟩⟩
    · cases q'
      unfold Rep at r1
      obtain ⟨a, xs, rfl, h, r⟩ := r1
      exact ⟨a, rfl, .inr ⟨⟨xs, h⟩, k _ H1 s1 fun C hC => itd_tup h (Reps.wide hC _ r)⟩⟩
    · cases q'
      unfold Rep at r1
      obtain ⟨a, rfl, h⟩ := r1
      exact ⟨a, rfl, .inl ⟨⟨_, h.sq⟩, k _ H1 s1 fun C hC => itd_scr h⟩⟩
    · cases q'
/-- lo, lo + 1, .. -/
def rngL (lo : Int) (n : Nat) : List D := (List.range n).map fun i => .int (lo + (i : Nat))
theorem rngL_get {lo : Int} {n i : Nat} (h : i < n) : (rngL lo n)[i]? = some (.int (lo + i)) := by
  unfold rngL
  rw [List.getElem?_map, List.getElem?_range h]
  rfl
theorem rngL_length (lo : Int) (n : Nat) : (rngL lo n).length = n := by unfold rngL; rw [List.length_map, List.length_range]
theorem itd_rng {K : PySem.W.Frag} {H : Hp} {B : Addr → Prop} {lo : Int} {n : Nat} : ItD K (Itr lo n) H B (rngL lo n) := by
  refine ⟨fun i H' _ hi => ?_, fun i H' _ hi => ?_, fun i H' x H2 _ y => ?_⟩
  · rw [rngL_length] at hi; exact hi
  · rw [rngL_length] at hi; exact hi
  · obtain ⟨e, y⟩ := y
    subst e y
    exact ⟨.refl _, .int (lo + i), fun h => rngL_get (by rwa [rngL_length] at h), rfl⟩
def dRng1 (f : DE) : DS → Option (List D) := fun δ => match f δ with
  | some (.int j) => if -(2 ^ 62) ≤ j ∧ j < 2 ^ 62 then some (rngL 0 j.toNat) else none
  | _ => none
def dRng2 (f g : DE) : DS → Option (List D) := fun δ => match f δ, g δ with
  | some (.int i), some (.int j) => if -(2 ^ 62) ≤ i ∧ i < 2 ^ 62 ∧ -(2 ^ 62) ≤ j ∧ j < 2 ^ 62 then some (rngL i (j - i).toNat) else none
  | _, _ => none
theorem pi_rng1 {f : DE} (hg : Gl X "range") (hm : X.mg "range" = none) (ha : PD X a f) (hs : starEach [a] X.env = [(false, eval a X.env)] := by rfl) : PID X tg (.Call (.Name "range" p) [a] [] pos) (dRng1 f) :=
  (pi_range1 hg hm (pad_cons ha pad_nil hs) hs).imp fun σ H R ⟨B, δ, ds, hB, S, q, k⟩ => by
    unfold dRng1 at q
    split at q
    · rename_i j e
      split at q
      · rename_i hj
        cases q
        have ea : dArgs [f] δ = some [.int j] := by unfold dArgs; rw [e]; rfl
        refine ⟨B, δ, [.int j], hB, S, ea, fun vs H1 s1 r1 => ?_⟩
        unfold Reps at r1
        obtain ⟨x, r, rfl, rx, rr⟩ := r1
        unfold Reps at rr
        subst rr
        exact ⟨j, by rw [show x = V.int j from rx], hj.1, hj.2, k _ H1 s1 fun C _ => itd_rng⟩
      · cases q
    · cases q

/-! ### [elt for x in iter if c] -/
def consO : Option D → List D → List D
  | some y, ys => y :: ys
  | none, ys => ys
def compL (h : D → Option (Option D)) : List D → Option (List D)
  | [] => some []
  | x :: r => (h x).bind fun o => (compL h r).bind fun ys => some (consO o ys)
theorem compL_cons {h : D → Option (Option D)} {x : D} {r ds : List D} (e : compL h (x :: r) = some ds) : ∃ o ys, h x = some o ∧ compL h r = some ys ∧ ds = consO o ys := by
  unfold compL at e
  cases q : h x with
  | none => rw [q] at e; cases e
  | some o =>
    rw [q] at e
    have e' : ((compL h r).bind fun ys => some (consO o ys)) = some ds := e
    cases q' : compL h r with
    | none => rw [q'] at e'; cases e'
    | some ys =>
      rw [q'] at e'
      exact ⟨o, ys, rfl, rfl, (Option.some.inj e').symm⟩
def dComp (fi : DS → Option (List D)) (fc : DS → Option Bool) (fe : DE) : DS → Option (List D) := fun δ => (fi δ).bind fun xs => if xs.length ≤ sizeLine then
  compL (fun x => (fc (δ ++ [some x])).bind fun k => if k = true then (fe (δ ++ [some x])).map some else some none) xs else none
def dYes : DS → Option Bool := fun _ => some true
theorem pifs_nilD {X : Cx} : PIfs X [] (tT X.K dYes) := fun pins s σ H Q I ⟨B, δ, b, hB, S, q, k⟩ => pifs_nil pins s σ H Q I (by cases q; exact k H (.refl H))
theorem pifs_oneD {X : Cx} {c : Expr} {f : DS → Option Bool} (h : PTD X c f) : PIfs X [c] (tT X.K f) := pifs_one h

theorem RepS.snoc {K : PySem.W.Frag} {H : Hp} {B : Addr → Prop} {σ : St} {δ : DS} {d : D} {v : V} (S : RepS K H B σ δ) (r : Rep K H B d v) : RepS K H B (σ ++ [some v]) (δ ++ [some d]) := by
  refine ⟨by simp [S.len], fun i d' e => ?_⟩
  by_cases hi : i < δ.length
  · rw [List.getElem?_append_left hi] at e
    obtain ⟨w, e', r'⟩ := S.get i d' e
    exact ⟨w, by rw [List.getElem?_append_left (by rw [← S.len]; exact hi)]; exact e', r'⟩
  · by_cases hj : i = δ.length
    · subst hj
      rw [List.getElem?_append_right (Nat.le_refl _), Nat.sub_self] at e
      cases e
      refine ⟨v, ?_, r⟩
      rw [S.len, List.getElem?_append_right (Nat.le_refl _), Nat.sub_self]
      rfl
    · rw [List.getElem?_eq_none (by simp; omega)] at e
      cases e
theorem RepS.keep {K : PySem.W.Frag} {H H' : Hp} {B : Addr → Prop} {σ : St} {δ : DS} (h : RepS K H B σ δ) (kp : Keep K B H H') : RepS K H' B σ δ :=
  ⟨h.len, fun i d q => let ⟨v, a, r⟩ := h.get i d q; ⟨v, a, Rep.keep kp d r⟩⟩
theorem RepS.wide {K : PySem.W.Frag} {H : Hp} {B C : Addr → Prop} {σ : St} {δ : DS} (h : RepS K H B σ δ) (hc : ∀ a, C a → H a = none) : RepS K H (fun a => B a ∨ C a) σ δ :=
  ⟨h.len, fun i d q => let ⟨v, a, r⟩ := h.get i d q; ⟨v, a, Rep.wide hc d r⟩⟩
theorem Keep.trans {K : PySem.W.Frag} {B : Addr → Prop} {H H1 H2 : Hp} (a : Keep K B H H1) (b : Keep K B H1 H2) : Keep K B H H2 :=
  ⟨fun x xs n h => b.sl x xs n (a.sl x xs n h), fun x xs h => b.st x xs (a.st x xs h), fun x xs h => b.sf x xs (a.sf x xs h), fun x xs n h => b.sd x xs n (a.sd x xs n h), fun x xs n h => b.sx x xs n (a.sx x xs n h), fun x C dx fs n h => b.si x C dx fs n (a.si x C dx fs n h)⟩
theorem Keep.anti {K : PySem.W.Frag} {B B' : Addr → Prop} {H H1 : Hp} (a : Keep K B H H1) (h : ∀ x, B x → B' x) : Keep K B' H H1 :=
  ⟨fun x xs n q => a.sl x xs (fun z => n (h x z)) q, a.st, a.sf, fun x xs n q => a.sd x xs (fun z => n (h x z)) q, fun x xs n q => a.sx x xs (fun z => n (h x z)) q, fun x C dx fs n q => a.si x C dx fs (fun z => n (h x z)) q⟩
theorem set_snoc {w v : Option V} : ∀ {σ : St}, (σ ++ [w]).set σ.length v = σ ++ [v]
  | [] => rfl
  | x :: r => congrArg (x :: ·) (set_snoc (σ := r))

variable {N' : List Str} {sc : Scope} {ifs : List Expr} {n : Nat} {px : Pos} {fi : DS → Option (List D)} {fc : DS → Option Bool} {fe : DE}

theorem comp_ofF {σ : St} {H : Hp} {Q : VK} (hσ : σ.length = n) (hq : tF X.K (dComp fi fc fe) σ H Q) : tComp (tI X.K fi) (gName n) (tT X.K fc) (tD X.K fe) 1 σ H Q := by
  obtain ⟨B, δ, ds, hB, Sδ, q, k⟩ := hq
  unfold dComp at q
  cases e1 : fi δ with
  | none => rw [e1] at q; cases q
  | some xs =>
  rw [e1] at q
  have q1 : (if xs.length ≤ sizeLine then compL (fun x => (fc (δ ++ [some x])).bind fun k => if k = true then (fe (δ ++ [some x])).map some else some none) xs else none) = some ds := q
  split at q1
  case isFalse => cases q1
  case isTrue hsz =>
  refine ⟨B, δ, xs, hB, Sδ, e1, fun J H1 s1 itw => fun Da hD => ?_⟩
  have hD0 : H Da = none := s1.free hD
  have it := itw (fun a => a = Da) fun a ha => by rw [ha]; exact hD
  have Sw : RepS X.K H1 (fun a => B a ∨ a = Da) σ δ := (Sδ.mono s1).wide fun a ha => by rw [ha]; exact hD
  -- within the block the new list is not gone through
  refine ⟨fun i m σ' H' => m = xs.length - i ∧ i ≤ xs.length ∧ (∃ w, σ' = σ ++ [w]) ∧ Same H1 H' ∧ ∃ ys dn rs, H' Da = some (.lst ys) ∧ Reps X.K H' (fun a => B a ∨ a = Da) dn ys ∧ ds = dn ++ rs ∧ dn.length ≤ i ∧
    compL (fun x => (fc (δ ++ [some x])).bind fun k => if k = true then (fe (δ ++ [some x])).map some else some none) (xs.drop i) = some rs,
    ⟨xs.length, by simp, Nat.zero_le _, ⟨none, rfl⟩, same_upd hD, [], [], ds, upd_same, .nil, rfl, Nat.le_refl _, q1⟩, ?_⟩
  rintro i m σ' H' ⟨rfl, hi', ⟨w, rfl⟩, sm, ys, dn, rs, hys, rys, hds, hln, hrs⟩
  have kp : Keep X.K (fun a => B a ∨ a = Da) H1 H' := .same sm
  by_cases hlt : i < xs.length
  · refine .inr ⟨it.go i H' kp hlt, fun σ'' H'' => (i + 1 ≤ xs.length ∧ (∃ w, σ'' = σ ++ [w]) ∧ Same H1 H'' ∧ ∃ ys dn rs, H'' Da = some (.lst ys) ∧ Reps X.K H'' (fun a => B a ∨ a = Da) dn ys ∧ ds = dn ++ rs ∧ dn.length ≤ i + 1 ∧
      compL (fun x => (fc (δ ++ [some x])).bind fun k => if k = true then (fe (δ ++ [some x])).map some else some none) (xs.drop (i + 1)) = some rs), fun σ'' H'' h => ⟨xs.length - (i + 1), by omega, rfl, h⟩, fun xv H2 hy => ?_⟩
    obtain ⟨s2, d, hd, rd⟩ := it.yld i H' xv H2 kp hy
    have hdi := hd hlt
    have hx : xs.drop i = d :: xs.drop (i + 1) := by
      obtain ⟨hl, e⟩ := List.getElem?_eq_some_iff.mp hdi
      rw [List.drop_eq_getElem_cons hl, e]
    rw [hx] at hrs
    obtain ⟨o, rs', e2, e3, e4⟩ := compL_cons hrs
    show tT X.K fc ((σ ++ [w]).set n (some xv)) H2 _
    rw [← hσ, set_snoc]
    have hB1 : InB (fun a => B a ∨ a = Da) H2 := fun a ha => ha.elim (fun z => (((hB.mono s1).mono sm).mono s2) a z) fun z => ⟨_, s2 _ _ (z ▸ hys)⟩
    have S2 : RepS X.K H2 (fun a => B a ∨ a = Da) (σ ++ [some xv]) (δ ++ [some d]) := ((Sw.mono sm).mono s2).snoc rd
    have hl2 : ys.length < sizeLine := by
      have := rys.length
      omega
    cases ec : fc (δ ++ [some d]) with
    | none => rw [ec] at e2; cases e2
    | some kk =>
      rw [ec] at e2
      have e2' : (if kk = true then (fe (δ ++ [some d])).map some else some none) = some o := e2
      refine ⟨_, δ ++ [some d], kk, hB1, S2, ec, fun H3 s3 => ?_⟩
      cases kk with
      | false =>
        rw [if_neg Bool.false_ne_true] at e2'
        rw [if_neg Bool.false_ne_true]
        cases e2'
        exact ⟨hlt, ⟨_, rfl⟩, (sm.trans s2).trans s3, ys, dn, rs', s3 _ _ (s2 _ _ hys), (rys.mono s2).mono s3, by rw [hds, e4]; rfl, Nat.le_succ_of_le hln, e3⟩
      | true =>
        rw [if_pos rfl] at e2'
        rw [if_pos rfl]
        cases ey : fe (δ ++ [some d]) with
        | none => rw [ey] at e2'; cases e2'
        | some y =>
          rw [ey] at e2'
          cases e2'
          refine ⟨_, δ ++ [some d], y, hB1.mono s3, S2.mono s3, ey, fun yv H5 s5 r5 => ⟨ys, s5 _ _ (s3 _ _ (s2 _ _ hys)), hl2, ?_⟩⟩
          have hu : H5 Da = some (.lst ys) := s5 _ _ (s3 _ _ (s2 _ _ hys))
          refine ⟨hlt, ⟨_, rfl⟩, fun b u hb => ?_, ys ++ [yv], dn ++ [y], rs', upd_same, ?_, by rw [hds, e4, List.append_assoc]; rfl, by rw [List.length_append]; simp; omega, e3⟩
          · rw [upd_ne (ne_of_none hb hD)]
            exact s5 _ _ (s3 _ _ (s2 _ _ (sm _ _ hb)))
          · exact Reps.keep (.upd (.inr rfl) (by rw [hu]; exact trivial)) _ (((rys.mono s2).mono s3 |>.mono s5).snoc r5)
  · have e : i = xs.length := by omega
    subst e
    refine .inl ⟨it.stop _ H' kp (Nat.le_refl _), ?_⟩
    rw [List.drop_length] at hrs
    cases hrs
    rw [List.append_nil] at hds
    subst hds
    exact k Da ys H' (s1.trans sm) hD0 hys (rys.anti fun a z => .inl z)
theorem pf_comp (hc : X.calm = true) (S : CompScope X.N X.env.scope.names N' 1 sc) (hn : n = X.N.length) (hi : PID X (.Name x px) iter fi)
    (hg : ∀ s H fp pins E, PG (cxComp X N' sc s H fp pins E) (.Name x px) (gName n)) (ht : ∀ s H fp pins E, PIfs (cxComp X N' sc s H fp pins E) ifs (tT X.K fc)) (he : ∀ s H fp pins E, PE (cxComp X N' sc s H fp pins E) elt (tD X.K fe))
    (hs : ∀ x, foldedSetIterable iter X.env x = pure x := by intro _; rfl) : PF X (.ListComp elt [⟨.Name x px, iter, ifs, 0⟩] sc pos) (dComp fi fc fe) := by
  intro pins s σ H Q I hq
  exact pe_comp hc S hi ⟨hg, ht, he⟩ hs pins s σ H Q I (comp_ofF (by rw [hn, I.len]) hq)
end
end L2

/-! ### E5: statements by trees; each slot shared, owned (its lists are the def's own, and no one else's), or lent by an owned one -/
namespace L2
open PySem PySem.Spec PyProof.Rows

inductive SD where
  | sh (d : D) | ow (d : D) | bo (r : Nat) (d : D)
abbrev SS := List (Option SD)
def SD.val : SD → D
  | .sh d => d
  | .ow d => d
  | .bo _ d => d
/-- what a look may see: all; the shared alone -/
def allV (δ : SS) : DS := δ.map (Option.map SD.val)
def shO : Option SD → Option D
  | some (.sh d) => some d
  | _ => none
def shV (δ : SS) : DS := δ.map shO

structure RS (K : PySem.W.Frag) (H0 : Hp) (B0 : Addr → Prop) (H : Hp) (σ : St) (δ : SS) (R : Nat → List Addr) : Prop where
  keep : Same H0 H
  inB : InB B0 H0
  len : δ.length = σ.length
  new : ∀ r a, a ∈ R r → H0 a = none
  held : ∀ r a, a ∈ R r → ∃ o, H a = some o ∧ Mut (some o)
  disj : ∀ r s a, a ∈ R r → a ∈ R s → r = s
  sh : ∀ (i : Nat) (d : D), δ[i]? = some (some (.sh d)) → ∃ v, σ[i]? = some (some v) ∧ Rep K H (fun a => B0 a ∨ ∃ r, a ∈ R r) d v
  bo : ∀ (i r : Nat) (d : D), δ[i]? = some (some (.bo r d)) → ∃ v, σ[i]? = some (some v) ∧ Rep K H (fun a => B0 a ∨ ∃ s, s ≠ r ∧ a ∈ R s) d v
  ow : ∀ (i : Nat) (d : D), δ[i]? = some (some (.ow d)) → ∃ v, σ[i]? = some (some v) ∧ Tree K H d v (R i) ∧ (R i).Nodup
/-- what a step may do -/
structure Stp (R : Nat → List Addr) (H : Hp) (R' : Nat → List Addr) (H' : Hp) : Prop where
  keep : ∀ a o, H a = some o → (∀ r, a ∉ R r) → H' a = some o
  from' : ∀ r a, a ∈ R' r → (∃ s, a ∈ R s) ∨ H a = none
  there : ∀ a, H' a = none → H a = none
theorem Stp.refl (R : Nat → List Addr) (H : Hp) : Stp R H R H := ⟨fun _ _ h _ => h, fun r _ h => .inl ⟨r, h⟩, fun _ h => h⟩
theorem Stp.trans {R R1 R2 : Nat → List Addr} {H H1 H2 : Hp} (a : Stp R H R1 H1) (b : Stp R1 H1 R2 H2) : Stp R H R2 H2 := by
  refine ⟨fun x o h n => b.keep x o (a.keep x o h n) fun r hr => ?_, fun r x h => ?_, fun x h => a.there x (b.there x h)⟩
  · rcases a.from' r x hr with ⟨s, z⟩ | z
    · exact n s z
    · rw [h] at z; cases z
  · rcases b.from' r x h with ⟨s, z⟩ | z
    · exact a.from' s x z
    · exact .inr (a.there x z)
theorem Stp.same {R : Nat → List Addr} {H H' : Hp} (e : Same H H') : Stp R H R H' := ⟨fun a o h _ => e a o h, fun r _ h => .inl ⟨r, h⟩, fun _ h => e.free h⟩

section
variable {K : PySem.W.Frag} {H0 H H' : Hp} {B0 : Addr → Prop} {σ : St} {δ : SS} {R : Nat → List Addr}
theorem allV_get {i : Nat} {d : D} (h : (allV δ)[i]? = some (some d)) : ∃ x, δ[i]? = some (some x) ∧ x.val = d := by
  unfold allV at h
  rw [List.getElem?_map] at h
  cases e : δ[i]? with
  | none => rw [e] at h; cases h
  | some o =>
    rw [e] at h
    cases o with
    | none => cases h
    | some x => cases h; exact ⟨x, rfl, rfl⟩
theorem shV_get {i : Nat} {d : D} (h : (shV δ)[i]? = some (some d)) : δ[i]? = some (some (.sh d)) := by
  unfold shV at h
  rw [List.getElem?_map] at h
  cases e : δ[i]? with
  | none => rw [e] at h; cases h
  | some o =>
    rw [e] at h
    have h' : shO o = some d := Option.some.inj h
    unfold shO at h'
    split at h'
    · cases h'; rfl
    · cases h'
theorem RS.all (h : RS K H0 B0 H σ δ R) : RepS K H noB σ (allV δ) := by
  refine ⟨by unfold allV; rw [List.length_map]; exact h.len, fun i d e => ?_⟩
  obtain ⟨x, e', rfl⟩ := allV_get e
  cases x with
  | sh d =>
    obtain ⟨v, e1, r⟩ := h.sh i d e'
    exact ⟨v, e1, r.anti fun _ z => z.elim⟩
  | bo r d =>
    obtain ⟨v, e1, r⟩ := h.bo i r d e'
    exact ⟨v, e1, r.anti fun _ z => z.elim⟩
  | ow d =>
    obtain ⟨v, e1, t, _⟩ := h.ow i d e'
    exact ⟨v, e1, t.rep d fun _ _ z => z.elim⟩
theorem RS.shr (h : RS K H0 B0 H σ δ R) : RepS K H (fun a => B0 a ∨ ∃ r, a ∈ R r) σ (shV δ) := by
  refine ⟨by unfold shV; rw [List.length_map]; exact h.len, fun i d e => h.sh i d (shV_get e)⟩
theorem RS.inAll (h : RS K H0 B0 H σ δ R) : InB (fun a => B0 a ∨ ∃ r, a ∈ R r) H := fun a ha => by
  rcases ha with z | ⟨r, z⟩
  · exact (h.inB.mono h.keep) a z
  · obtain ⟨o, e, _⟩ := h.held r a z
    exact ⟨o, e⟩
theorem RS.mono (h : RS K H0 B0 H σ δ R) (e : Same H H') : RS K H0 B0 H' σ δ R := by
  refine ⟨h.keep.trans e, h.inB, h.len, h.new, fun r a z => ?_, h.disj, fun i d z => ?_, fun i r d z => ?_, fun i d z => ?_⟩
  · obtain ⟨o, e1, m⟩ := h.held r a z
    exact ⟨o, e a o e1, m⟩
  · obtain ⟨v, e1, r⟩ := h.sh i d z
    exact ⟨v, e1, r.mono e⟩
  · obtain ⟨v, e1, r⟩ := h.bo i r d z
    exact ⟨v, e1, r.mono e⟩
  · obtain ⟨v, e1, t, nd⟩ := h.ow i d z
    exact ⟨v, e1, t.mono e, nd⟩
/-- a slot is given something shared -/
theorem RS.setSh {i : Nat} {d : D} {v : V} (h : RS K H0 B0 H σ δ R) (r : Rep K H (fun a => B0 a ∨ ∃ r, a ∈ R r) d v) : RS K H0 B0 H (σ.set i (some v)) (δ.set i (some (.sh d))) R := by
  have gs : ∀ {α : Type} {l : List (Option α)} {i j : Nat} {x : Option α} {y : α}, (l.set i x)[j]? = some (some y) → (j = i ∧ x = some y) ∨ (j ≠ i ∧ l[j]? = some (some y)) := fun {α l i j x y} e => by
    by_cases hj : j = i
    · subst hj
      rw [List.getElem?_set] at e
      simp only [if_true] at e
      split at e
      · exact .inl ⟨rfl, Option.some.inj e⟩
      · cases e
    · rw [List.getElem?_set_ne (Ne.symm hj)] at e
      exact .inr ⟨hj, e⟩
  have up : ∀ {j : Nat} {w : V}, j ≠ i → σ[j]? = some (some w) → (σ.set i (some v))[j]? = some (some w) := fun hj e => by rw [List.getElem?_set_ne (Ne.symm hj)]; exact e
  refine ⟨h.keep, h.inB, by simp [h.len], h.new, h.held, h.disj, fun j d' z => ?_, fun j r' d' z => ?_, fun j d' z => ?_⟩
  · rcases gs z with ⟨rfl, q⟩ | ⟨hj, q⟩
    · cases q
      have hl : j < σ.length := by
        rw [← h.len]
        by_cases hl : j < δ.length
        · exact hl
        · rw [List.getElem?_eq_none (by simp; omega)] at z; cases z
      exact ⟨v, by rw [List.getElem?_set]; simp [hl], r⟩
    · obtain ⟨w, e1, r⟩ := h.sh j d' q
      exact ⟨w, up hj e1, r⟩
  · rcases gs z with ⟨rfl, q⟩ | ⟨hj, q⟩
    · cases q
    · obtain ⟨w, e1, r⟩ := h.bo j r' d' q
      exact ⟨w, up hj e1, r⟩
  · rcases gs z with ⟨rfl, q⟩ | ⟨hj, q⟩
    · cases q
    · obtain ⟨w, e1, t⟩ := h.ow j d' q
      exact ⟨w, up hj e1, t⟩
def setR (R : Nat → List Addr) (i : Nat) (A : List Addr) : Nat → List Addr := fun r => if r = i then A else R r
theorem setR_same {i : Nat} {A : List Addr} : setR R i A i = A := if_pos rfl
theorem setR_ne {i r : Nat} {A : List Addr} (h : r ≠ i) : setR R i A r = R r := if_neg h
theorem get_set {α : Type} {l : List (Option α)} {i j : Nat} {x : Option α} {y : α} (e : (l.set i x)[j]? = some (some y)) : (j = i ∧ x = some y ∧ i < l.length) ∨ (j ≠ i ∧ l[j]? = some (some y)) := by
  by_cases hj : j = i
  · subst hj
    rw [List.getElem?_set] at e
    simp only [if_true] at e
    split at e
    · rename_i hl
      exact .inl ⟨rfl, Option.some.inj e, hl⟩
    · cases e
  · rw [List.getElem?_set_ne (Ne.symm hj)] at e
    exact .inr ⟨hj, e⟩
/-- a slot is given a tree all new since Hold -/
theorem RS.setOw {Hold : Hp} {i : Nat} {d : D} {v : V} {A : List Addr} (h : RS K H0 B0 Hold σ δ R) (e : Same Hold H) (t : Tree K H d v A) (nd : A.Nodup) (fr : ∀ a ∈ A, Hold a = none) : RS K H0 B0 H (σ.set i (some v)) (δ.set i (some (.ow d))) (setR R i A) := by
  have hm := h.mono e
  have up : ∀ {j : Nat} {w : V}, j ≠ i → σ[j]? = some (some w) → (σ.set i (some v))[j]? = some (some w) := fun hj e => by rw [List.getElem?_set_ne (Ne.symm hj)]; exact e
  have hA : ∀ r a, a ∈ R r → a ∉ A := fun r a z z' => by
    obtain ⟨o, q, _⟩ := h.held r a z
    rw [fr a z'] at q; cases q
  have mem : ∀ r a, a ∈ setR R i A r → (r = i ∧ a ∈ A) ∨ (r ≠ i ∧ a ∈ R r) := fun r a z => by
    by_cases hr : r = i
    · subst hr; rw [setR_same] at z; exact .inl ⟨rfl, z⟩
    · rw [setR_ne hr] at z; exact .inr ⟨hr, z⟩
  refine ⟨hm.keep, h.inB, by simp [h.len], fun r a z => ?_, fun r a z => ?_, fun r s a z z' => ?_, fun j d' z => ?_, fun j r' d' z => ?_, fun j d' z => ?_⟩
  · rcases mem r a z with ⟨_, z⟩ | ⟨_, z⟩
    · exact h.keep.free (fr a z)
    · exact h.new r a z
  · rcases mem r a z with ⟨_, z⟩ | ⟨_, z⟩
    · exact t.held d a z
    · exact hm.held r a z
  · rcases mem r a z with ⟨h1, z⟩ | ⟨h1, z⟩ <;> rcases mem s a z' with ⟨h2, z'⟩ | ⟨h2, z'⟩
    · rw [h1, h2]
    · exact absurd z (hA s a z')
    · exact absurd z' (hA r a z)
    · exact h.disj r s a z z'
  · rcases get_set z with ⟨rfl, q, _⟩ | ⟨hj, q⟩
    · cases q
    · obtain ⟨w, e1, r⟩ := h.sh j d' q
      refine ⟨w, up hj e1, Rep.anti ?_ d' ((Rep.wide (C := fun a => a ∈ A) fr d' r).mono e)⟩
      rintro a (z | ⟨r, z⟩)
      · exact .inl (.inl z)
      · rcases mem r a z with ⟨_, z⟩ | ⟨_, z⟩
        · exact .inr z
        · exact .inl (.inr ⟨r, z⟩)
  · rcases get_set z with ⟨rfl, q, _⟩ | ⟨hj, q⟩
    · cases q
    · obtain ⟨w, e1, r⟩ := h.bo j r' d' q
      refine ⟨w, up hj e1, Rep.anti ?_ d' ((Rep.wide (C := fun a => a ∈ A) fr d' r).mono e)⟩
      rintro a (z | ⟨s, hs, z⟩)
      · exact .inl (.inl z)
      · rcases mem s a z with ⟨_, z⟩ | ⟨_, z⟩
        · exact .inr z
        · exact .inl (.inr ⟨s, hs, z⟩)
  · rcases get_set z with ⟨rfl, q, hl⟩ | ⟨hj, q⟩
    · cases q
      rw [setR_same]
      exact ⟨v, by rw [List.getElem?_set]; simp [← h.len, hl], t, nd⟩
    · obtain ⟨w, e1, t'⟩ := hm.ow j d' q
      rw [setR_ne hj]
      exact ⟨w, up hj e1, t'⟩
/-- an owned slot becomes shared -/
def frzS (i : Nat) (δ : SS) : SS := match δ[i]? with
  | some (some (.ow d)) => δ.set i (some (.sh d))
  | _ => δ
theorem RS.frz (i : Nat) (h : RS K H0 B0 H σ δ R) : ∃ R', RS K H0 B0 H σ (frzS i δ) R' ∧ ∀ r a, a ∈ R' r → a ∈ R r := by
  unfold frzS
  split
  · rename_i d e
    obtain ⟨v, e1, t, nd⟩ := h.ow i d e
    refine ⟨setR R i [], ?_, fun r a z => ?_⟩
    · have mem : ∀ r a, a ∈ setR R i [] r → r ≠ i ∧ a ∈ R r := fun r a z => by
        by_cases hr : r = i
        · subst hr; rw [setR_same] at z; cases z
        · rw [setR_ne hr] at z; exact ⟨hr, z⟩
      refine ⟨h.keep, h.inB, by simp [h.len], fun r a z => h.new r a (mem r a z).2, fun r a z => h.held r a (mem r a z).2, fun r s a z z' => h.disj r s a (mem r a z).2 (mem s a z').2, fun j d' z => ?_, fun j r' d' z => ?_, fun j d' z => ?_⟩
      · rcases get_set z with ⟨rfl, q, hl⟩ | ⟨hj, q⟩
        · cases q
          refine ⟨v, e1, t.rep d fun a ha => ?_⟩
          rintro (z | ⟨r, z⟩)
          · obtain ⟨o, q⟩ := h.inB a z
            rw [h.new j a ha] at q; cases q
          · exact (mem r a z).1 (h.disj r j a (mem r a z).2 ha)
        · obtain ⟨w, e2, r⟩ := h.sh j d' q
          exact ⟨w, e2, r.anti fun a z => z.imp id fun ⟨r, z⟩ => ⟨r, (mem r a z).2⟩⟩
      · rcases get_set z with ⟨rfl, q, _⟩ | ⟨hj, q⟩
        · cases q
        · obtain ⟨w, e2, r⟩ := h.bo j r' d' q
          exact ⟨w, e2, r.anti fun a z => z.imp id fun ⟨s, hs, z⟩ => ⟨s, hs, (mem s a z).2⟩⟩
      · rcases get_set z with ⟨rfl, q, _⟩ | ⟨hj, q⟩
        · cases q
        · rw [setR_ne hj]
          exact h.ow j d' q
    · by_cases hr : r = i
      · subst hr; rw [setR_same] at z; cases z
      · rw [setR_ne hr] at z; exact z
  · exact ⟨R, h, fun _ _ z => z⟩
end

/-! ### what comes of a statement -/
inductive Out where
  | nx (δ : SS) | bk (δ : SS) | ct (δ : SS) | rt (d : D) | rb (d : D) (δ : SS) | ex (c : Nat) (δ : SS)
/-- what is wanted of an exception: its class, the slots and the heap where it was raised -/
abbrev XR := Nat → St → Hp → Prop
abbrev noX : XR := fun _ _ _ => False
def Ret (K : PySem.W.Frag) (H0 : Hp) (B0 : Addr → Prop) (fr : Bool) (H : Hp) (d : D) (v : V) : Prop :=
  Same H0 H ∧ (fr = true → ∃ A, Tree K H d v A ∧ A.Nodup ∧ ∀ a ∈ A, H0 a = none) ∧ (fr = false → Rep K H B0 d v)
def Aft (K : PySem.W.Frag) (H0 : Hp) (B0 : Addr → Prop) (fr : Bool) (RX : XR) (R : Nat → List Addr) (H : Hp) (D : Ends) : Out → Prop
  | .nx δ' => ∀ σ' H' R', RS K H0 B0 H' σ' δ' R' → Stp R H R' H' → D.nx σ' H'
  | .bk δ' => ∀ σ' H' R', RS K H0 B0 H' σ' δ' R' → Stp R H R' H' → D.bk σ' H'
  | .ct δ' => ∀ σ' H' R', RS K H0 B0 H' σ' δ' R' → Stp R H R' H' → D.ct σ' H'
  | .rt d => ∀ v H', Ret K H0 B0 fr H' d v → (∀ a, H' a = none → H a = none) → D.rt v H'
  | .rb d δ' => ∀ v σ' H' R', RS K H0 B0 H' σ' δ' R' → Stp R H R' H' → d.imm = true → Rep K H' noB d v → D.rt v H'
  | .ex c δ' => ∀ σ' H' R', RS K H0 B0 H' σ' δ' R' → Stp R H R' H' → RX c σ' H'
def tS (K : PySem.W.Frag) (H0 : Hp) (B0 : Addr → Prop) (fr : Bool) (RX : XR) (g : SS → Option Out) : TS := fun D σ H => ∃ δ R o, RS K H0 B0 H σ δ R ∧ g δ = some o ∧ Aft K H0 B0 fr RX R H D o
theorem Aft.back {K : PySem.W.Frag} {H0 : Hp} {B0 : Addr → Prop} {fr : Bool} {RX : XR} {R R1 : Nat → List Addr} {H H1 : Hp} {D : Ends} {o : Out} (h : Aft K H0 B0 fr RX R H D o) (s : Stp R H R1 H1) : Aft K H0 B0 fr RX R1 H1 D o := by
  cases o with
  | nx δ' => exact fun σ' H' R' r t => h σ' H' R' r (s.trans t)
  | bk δ' => exact fun σ' H' R' r t => h σ' H' R' r (s.trans t)
  | ct δ' => exact fun σ' H' R' r t => h σ' H' R' r (s.trans t)
  | rt d => exact fun v H' r t => h v H' r fun a z => s.there a (t a z)
  | rb d δ' => exact fun v σ' H' R' r t => h v σ' H' R' r (s.trans t)
  | ex c δ' => exact fun σ' H' R' r t => h σ' H' R' r (s.trans t)
theorem PS.imp {X : Cx} {st : Stmt} {t t' : TS} (h : PS X st t) (w : ∀ D σ H, t' D σ H → t D σ H) : PS X st t' := fun pins s σ H D I q => h pins s σ H D I (w D σ H q)
theorem PSs.imp {X : Cx} {st : List Stmt} {t t' : TS} (h : PSs X st t) (w : ∀ D σ H, t' D σ H → t D σ H) : PSs X st t' := fun pins s σ H D I q => h pins s σ H D I (w D σ H q)

section
variable {X : Cx} {H0 : Hp} {B0 : Addr → Prop} {fr : Bool} {RX : XR} {st : Stmt} {sts : List Stmt} {e : Expr} {pos : Pos}
def seqO (g h : SS → Option Out) : SS → Option Out := fun δ => (g δ).bind fun o => match o with
  | .nx δ' => h δ'
  | o => some o
def skipO : SS → Option Out := fun δ => some (.nx δ)
theorem ss_nil : PSs X [] (tS X.K H0 B0 fr RX skipO) := pss_nil.imp fun D σ H ⟨δ, R, o, rs, q, k⟩ => by
  cases q
  exact k σ H R rs (.refl R H)
theorem ss_cons {g h : SS → Option Out} (h1 : PS X st (tS X.K H0 B0 fr RX g)) (h2 : PSs X sts (tS X.K H0 B0 fr RX h)) : PSs X (st :: sts) (tS X.K H0 B0 fr RX (seqO g h)) := (pss_cons h1 h2).imp fun D σ H ⟨δ, R, o, rs, q, k⟩ => by
  unfold seqO at q
  cases e : g δ with
  | none => rw [e] at q; cases q
  | some o1 =>
    rw [e] at q
    refine ⟨δ, R, o1, rs, e, ?_⟩
    cases o1 with
    | nx δ' =>
      have q' : h δ' = some o := q
      exact fun σ' H' R' rs' s' => ⟨δ', R', o, rs', q', k.back s'⟩
    | bk δ' => cases q; exact k
    | ct δ' => cases q; exact k
    | rt d => cases q; exact k
    | rb d δ' => cases q; exact k
    | ex c δ' => cases q; exact k
theorem ss_one {g : SS → Option Out} (h1 : PS X st (tS X.K H0 B0 fr RX g)) : PSs X [st] (tS X.K H0 B0 fr RX g) := pss_one h1

/-! ### name = e -/
abbrev PAsg (X : Cx) (st : Stmt) (i : Nat) (te : TE) : Prop := PS X st (tAsg te (gName i))
theorem PAsg.imp {i : Nat} {t t' : TE} (h : PAsg X st i t) (w : ∀ σ H Q, t' σ H Q → t σ H Q) : PAsg X st i t' := PS.imp h fun D σ H q => w σ H _ q
theorem pas_e {i : Nat} {x : Str} {te : TE} {pos' : Pos} (hN : X.N.Nodup) (hi : X.N[i]? = some x) (hx : Loc X.env.scope x) (he : PE X e te) (hs : swapsWith e (some (.Name x pos')) pos.line X.env = pure false := by rfl) (hf : X.fn x = true ∨ X.env.scope.names.lookup x = some .local := by first | exact .inl rfl | exact .inr rfl | assumption) :
    PAsg X (.Assign [.Name x pos'] e pos) i te := ps_set hN hi hx he hs hf
def asgS (i : Nat) (f : DE) : SS → Option Out := fun δ => (f (shV δ)).map fun d => .nx (δ.set i (some (.sh d)))
def asgI (i : Nat) (f : DE) : SS → Option Out := fun δ => (f (allV δ)).bind fun d => if d.imm = true then some (.nx (δ.set i (some (.sh d)))) else none
def asgN (i : Nat) (f : DE) : SS → Option Out := fun δ => (f (allV δ)).map fun d => .nx (δ.set i (some (.ow d)))
theorem s_asgS {i : Nat} {f : DE} (h : PAsg X st i (tD X.K f)) : PS X st (tS X.K H0 B0 fr RX (asgS i f)) := PS.imp h fun D σ H ⟨δ, R, o, rs, q, k⟩ => by
  unfold asgS at q
  cases e : f (shV δ) with
  | none => rw [e] at q; cases q
  | some d =>
    rw [e] at q
    cases q
    exact ⟨_, shV δ, d, rs.inAll, rs.shr, e, fun v H' s r => k _ H' R ((rs.mono s).setSh r) (.same s)⟩
theorem s_asgI {i : Nat} {f : DE} (h : PAsg X st i (tD X.K f)) : PS X st (tS X.K H0 B0 fr RX (asgI i f)) := PS.imp h fun D σ H ⟨δ, R, o, rs, q, k⟩ => by
  unfold asgI at q
  cases e : f (allV δ) with
  | none => rw [e] at q; cases q
  | some d =>
    rw [e] at q
    have q' : (if d.imm = true then some (Out.nx (δ.set i (some (.sh d)))) else none) = some o := q
    split at q'
    · rename_i hi
      cases q'
      exact ⟨noB, allV δ, d, .no, rs.all, e, fun v H' s r => k _ H' R ((rs.mono s).setSh (r.imm d hi)) (.same s)⟩
    · cases q'
theorem s_asgN {i : Nat} {f : DE} (h : PAsg X st i (tN X.K f)) : PS X st (tS X.K H0 B0 fr RX (asgN i f)) := PS.imp h fun D σ H ⟨δ, R, o, rs, q, k⟩ => by
  unfold asgN at q
  cases e : f (allV δ) with
  | none => rw [e] at q; cases q
  | some d =>
    rw [e] at q
    cases q
    refine ⟨allV δ, d, rs.all, e, fun v H' A s t nd fr' => k _ H' (setR R i A) (rs.setOw s t nd fr') ⟨fun a o h _ => s a o h, fun r a z => ?_, fun a z => s.free z⟩⟩
    by_cases hr : r = i
    · subst hr; rw [setR_same] at z; exact .inr (fr' a z)
    · rw [setR_ne hr] at z; exact .inl ⟨r, z⟩

/-! ### return -/
def retI (f : DE) : SS → Option Out := fun δ => (f (allV δ)).bind fun d => if d.imm = true then some (.rt d) else none
def retN (f : DE) : SS → Option Out := fun δ => (f (allV δ)).map .rt
def retS (f : DE) : SS → Option Out := fun δ => (f (shV δ)).map .rt
def retO (i : Nat) : SS → Option Out := fun δ => match δ[i]? with
  | some (some (.ow d)) => some (.rt d)
  | _ => none
theorem s_retI {f : DE} (h : PD X e f) : PS X (.Return (some e) pos) (tS X.K H0 B0 fr RX (retI f)) := PS.imp (ps_ret h) fun D σ H ⟨δ, R, o, rs, q, k⟩ => by
  unfold retI at q
  cases e : f (allV δ) with
  | none => rw [e] at q; cases q
  | some d =>
    rw [e] at q
    have q' : (if d.imm = true then some (Out.rt d) else none) = some o := q
    split at q'
    · rename_i hi
      cases q'
      exact ⟨noB, allV δ, d, .no, rs.all, e, fun v H' s r => k v H' ⟨rs.keep.trans s, fun _ => ⟨[], r.immTree d hi, List.nodup_nil, (fun a z => nomatch z)⟩, fun _ => r.imm d hi⟩ fun a z => s.free z⟩
    · cases q'
theorem s_retN {f : DE} (h : PN X e f) : PS X (.Return (some e) pos) (tS X.K H0 B0 fr RX (retN f)) := PS.imp (ps_ret h) fun D σ H ⟨δ, R, o, rs, q, k⟩ => by
  unfold retN at q
  cases e : f (allV δ) with
  | none => rw [e] at q; cases q
  | some d =>
    rw [e] at q
    cases q
    exact ⟨allV δ, d, rs.all, e, fun v H' A s t nd fr' => k v H' ⟨rs.keep.trans s, fun _ => ⟨A, t, nd, fun a z => rs.keep.free (fr' a z)⟩, fun _ => t.rep d fun a z => rs.inB.fresh (rs.keep.free (fr' a z))⟩ fun a z => s.free z⟩

/-! ### if, break, continue, pass -/
def ifO (c : DS → Option Bool) (g h : SS → Option Out) : SS → Option Out := fun δ => (c (allV δ)).bind fun b => if b = true then g δ else h δ
theorem s_if {c : Expr} {a b : List Stmt} {f : DS → Option Bool} {g h : SS → Option Out} (hc : PTD X c f) (ha : PSs X a (tS X.K H0 B0 fr RX g)) (hb : PSs X b (tS X.K H0 B0 fr RX h)) : PS X (.If c a b pos) (tS X.K H0 B0 fr RX (ifO f g h)) := PS.imp (ps_if hc ha hb) fun D σ H ⟨δ, R, o, rs, q, k⟩ => by
  unfold ifO at q
  cases e : f (allV δ) with
  | none => rw [e] at q; cases q
  | some b =>
    rw [e] at q
    have q' : (if b = true then g δ else h δ) = some o := q
    refine ⟨noB, allV δ, b, .no, rs.all, e, fun H' s => ?_⟩
    cases b with
    | true =>
      rw [if_pos rfl] at q'
      refine iteT ?_
      exact ⟨δ, R, o, rs.mono s, q', k.back (.same s)⟩
    | false =>
      rw [if_neg Bool.false_ne_true] at q'
      refine iteF ?_
      exact ⟨δ, R, o, rs.mono s, q', k.back (.same s)⟩
def bkO : SS → Option Out := fun δ => some (.bk δ)
def ctO : SS → Option Out := fun δ => some (.ct δ)
/-- ahead of a statement an owned slot may become shared -/
def frzO (i : Nat) (g : SS → Option Out) : SS → Option Out := fun δ => g (frzS i δ)
theorem s_frz (i : Nat) {g : SS → Option Out} (h : PS X st (tS X.K H0 B0 fr RX g)) : PS X st (tS X.K H0 B0 fr RX (frzO i g)) := PS.imp h fun D σ H ⟨δ, R, o, rs, q, k⟩ => by
  obtain ⟨R', rs', hs⟩ := rs.frz i
  exact ⟨frzS i δ, R', o, rs', q, k.back ⟨fun a o h _ => h, fun r a z => .inl ⟨r, hs r a z⟩, fun a z => z⟩⟩

/-! ### for x in .. : over what is shared -/
def forD (i : Nat) (b : SS → Option Out) : List D → SS → Option Out
  | [], δ => some (.nx δ)
  | x :: r, δ => (b (δ.set i (some (.sh x)))).bind fun o => match o with
    | .nx δ' => forD i b r δ'
    | .ct δ' => forD i b r δ'
    | .bk δ' => some (.nx δ')
    | .rt d => some (.rt d)
    | .rb d δ' => some (.rb d δ')
    | .ex c δ' => some (.ex c δ')
def forO (i : Nat) (f : DS → Option (List D)) (b : SS → Option Out) : SS → Option Out := fun δ => (f (shV δ)).bind fun ds => forD i b ds δ
theorem Stp.keepB {K : PySem.W.Frag} {R R' : Nat → List Addr} {H H' : Hp} {B : Addr → Prop} (s : Stp R H R' H') (hR : ∀ r a, a ∈ R r → B a) (hm : ∀ r a, a ∈ R r → ∃ o, H a = some o ∧ Mut (some o)) : Keep K B H H' := by
  have kp : ∀ a o, H a = some o → ¬ Mut (some o) → H' a = some o := fun a o e n => s.keep a o e fun r z => by
    obtain ⟨o', e', m⟩ := hm r a z
    rw [e] at e'; cases e'
    exact n m
  refine ⟨fun a xs n h => s.keep a _ h fun r z => n (hR r a z), fun a xs h => ?_, fun a xs h => ?_, fun a kvs n h => s.keep a _ h fun r z => n (hR r a z), fun a φ n h => s.keep a _ h fun r z => n (hR r a z), fun a _ _ _ n h => s.keep a _ h fun r z => n (hR r a z)⟩
  · rcases h with (h | ⟨o, h⟩) | h
    · exact .inl (.inl (kp a _ h fun z => z))
    · exact .inl (.inr ⟨o, kp a _ h fun z => z⟩)
    · exact .inr h
  · rcases h with ⟨o, h⟩ | h
    · exact .inl ⟨o, kp a _ h fun z => z⟩
    · exact .inr h
theorem s_for {i : Nat} {x : Str} {px : Pos} {iter : Expr} {body : List Stmt} {f : DS → Option (List D)} {g : SS → Option Out} (hp : PassesOwn (model X.prog X.w) X.A X.env X.xe) (hc : X.calm = true) (hi : PID X (.Name x px) iter f) (hg : PG X (.Name x px) (gName i)) (hb : PSs X body (tS X.K H0 B0 fr RX g))
    (hs : ∀ x, foldedSetIterable iter X.env x = pure x := by intro _; rfl) : PS X (.For (.Name x px) iter body [] pos) (tS X.K H0 B0 fr RX (forO i f g)) := PS.imp (ps_for hp hc hi hg hb hs) fun D σ H ⟨δ, R, o, rs, q, k⟩ => by
  unfold forO at q
  cases e : f (shV δ) with
  | none => rw [e] at q; cases q
  | some ds =>
  rw [e] at q
  have q : forD i g ds δ = some o := q
  refine ⟨_, shV δ, ds, rs.inAll, rs.shr, e, fun J H1 s1 itw => ?_⟩
  have rs1 := rs.mono s1
  have it := itw (fun a => H1 a = none) fun a z => z
  refine ⟨fun n m σ' H' => m = ds.length - n ∧ n ≤ ds.length ∧ ∃ δ' R', RS X.K H0 B0 H' σ' δ' R' ∧ Stp R H1 R' H' ∧ forD i g (ds.drop n) δ' = some o, ⟨ds.length, by simp, Nat.zero_le _, δ, R, rs1, .refl R H1, q⟩, ?_⟩
  rintro n m σ' H' ⟨rfl, hn, δ', R', rs', s', q'⟩
  have kp : Keep X.K (fun a => (B0 a ∨ ∃ r, a ∈ R r) ∨ H1 a = none) H1 H' := s'.keepB (fun r a z => .inl (.inr ⟨r, z⟩)) rs1.held
  by_cases hlt : n < ds.length
  · have hx : ds.drop n = ds[n] :: ds.drop (n + 1) := List.drop_eq_getElem_cons hlt
    rw [hx] at q'
    unfold forD at q'
    cases eb : g (δ'.set i (some (.sh ds[n]))) with
    | none => rw [eb] at q'; cases q'
    | some ob =>
      rw [eb] at q'
      refine .inr ⟨it.go n H' kp hlt, fun σ2 H2 => n + 1 ≤ ds.length ∧ ∃ δ2 R2, RS X.K H0 B0 H2 σ2 δ2 R2 ∧ Stp R H1 R2 H2 ∧ forD i g (ds.drop (n + 1)) δ2 = some o, fun σ2 H2 z => ⟨ds.length - (n + 1), by omega, rfl, z⟩, fun xv H2 hy => ?_⟩
      obtain ⟨s2, d, hd, rd⟩ := it.yld n H' xv H2 kp hy
      have hdi : d = ds[n] := by
        have := hd hlt
        rw [List.getElem?_eq_getElem hlt] at this
        exact (Option.some.inj this).symm
      subst hdi
      -- the item is shared
      have rd' : Rep X.K H2 (fun a => B0 a ∨ ∃ r, a ∈ R' r) ds[n] xv := rd.anti fun a z => by
        rcases z with z | ⟨r, z⟩
        · exact .inl (.inl z)
        · rcases s'.from' r a z with z | z
          · exact .inl (.inr z)
          · exact .inr z
      have rs2 := (rs'.mono s2).setSh (i := i) rd'
      have st2 : Stp R H1 R' H2 := s'.trans (.same s2)
      refine ⟨_, R', ob, rs2, eb, ?_⟩
      cases ob with
      | nx δ2 =>
        have q2 : forD i g (ds.drop (n + 1)) δ2 = some o := q'
        exact fun σ3 H3 R3 rs3 s3 => ⟨hlt, δ2, R3, rs3, st2.trans s3, q2⟩
      | ct δ2 =>
        have q2 : forD i g (ds.drop (n + 1)) δ2 = some o := q'
        exact fun σ3 H3 R3 rs3 s3 => ⟨hlt, δ2, R3, rs3, st2.trans s3, q2⟩
      | bk δ2 =>
        cases q'
        exact fun σ3 H3 R3 rs3 s3 => k σ3 H3 R3 rs3 ((Stp.same s1).trans (st2.trans s3))
      | rt d =>
        cases q'
        exact k.back ((Stp.same s1).trans st2)
      | rb d δ2 =>
        cases q'
        exact k.back ((Stp.same s1).trans st2)
      | ex c δ2 =>
        cases q'
        exact k.back ((Stp.same s1).trans st2)
  · have en : n = ds.length := by omega
    subst en
    rw [List.drop_length] at q'
    cases q'
    exact .inl ⟨it.stop _ H' kp (Nat.le_refl _), k σ' H' R' rs' ((Stp.same s1).trans s')⟩
end

/-! ### a def's body -/
def runD (np nl : Nat) (g : SS → Option Out) : List D → Option D := fun ds => if ds.length = np then (match g (ds.map (fun d => some (.sh d)) ++ List.replicate nl none) with
  | some (.rt d) => some d
  | some (.nx _) => some .non
  | _ => none) else none
theorem runD_len {np nl : Nat} {g : SS → Option Out} {ds : List D} {d : D} (h : runD np nl g ds = some d) : ds.length = np := by
  unfold runD at h
  split at h
  · assumption
  · cases h
theorem rs_start {K : PySem.W.Frag} {H : Hp} {B : Addr → Prop} {ds : List D} {vs : List V} {N : List Str} {nl : Nat} (hB : InB B H) (r : Reps K H B ds vs) (hN : N.length = ds.length + nl) :
    RS K H B H (start N vs) (ds.map (fun d => some (.sh d)) ++ List.replicate nl none) (fun _ => []) := by
  have hl := r.length
  have get : ∀ {i : Nat} {x : SD}, (ds.map (fun d => some (SD.sh d)) ++ List.replicate nl none)[i]? = some (some x) → ∃ d, ds[i]? = some d ∧ x = .sh d := fun {i x} e => by
    by_cases hi : i < ds.length
    · rw [List.getElem?_append_left (by simpa using hi), List.getElem?_map, List.getElem?_eq_getElem hi] at e
      cases e
      exact ⟨ds[i], List.getElem?_eq_getElem hi, rfl⟩
    · rw [List.getElem?_append_right (by simpa using hi), List.getElem?_replicate] at e
      split at e <;> cases e
  refine ⟨.refl H, hB, ?_, (fun _ _ z => nomatch z), (fun _ _ z => nomatch z), (fun _ _ _ z => nomatch z), fun i d e => ?_, fun i r d e => ?_, fun i d e => ?_⟩
  · unfold start
    simp
    omega
  · obtain ⟨d', e1, e2⟩ := get e
    cases e2
    obtain ⟨v, e3, rv⟩ := r.get e1
    refine ⟨v, ?_, rv.anti fun a z => z.elim id (fun ⟨_, z⟩ => nomatch z)⟩
    unfold start
    have hi : i < vs.length := (List.getElem?_eq_some_iff.mp e3).1
    rw [List.getElem?_append_left (by simpa using hi), List.getElem?_map, e3]
    rfl
  · obtain ⟨d', _, e2⟩ := get e
    cases e2
  · obtain ⟨d', _, e2⟩ := get e
    cases e2
section
variable {P : Program} {w : World} {K : PySem.W.Frag} {mg : Str → Option Value} {base : Heap}
/-- a def whose trees are all new -/
theorem fnN {x qual : Str} {st : Stmt} {f : Addr} {fd : FuncData} {N ps : List Str} {k np nl : Nat} {g : SS → Option Out} (F : Fun K x qual st f fd) (S : FnScope N ps (defScope st)) (hnp : ps.length = np) (hN : N.length = np + nl)
    (hbody : ∀ (cdv : Value) (A : Around) (outer : List Env) (s : Shared) (H : Hp) (E : XK), Room k (A.deeper (envOfC qual (defScope st) s.heap.objs.size f cdv)) →
      PSs (cxOf CX0 P w K mg base N qual (defScope st) f cdv A outer s H E).nox (defBody st) (tS K H noB true noX g)) : FnOk P w K mg base CX0 (k + 1) f fd ps (spN K (runD np nl g)) := by
  refine F.ok S (fun vs H Q E h => ?_) fun cdv A outer s H vs Q E hr h => ?_
  · obtain ⟨ds, d, r, e, _⟩ := h
    rw [← r.length, runD_len e, hnp]
  · obtain ⟨ds, d, r, e, kk⟩ := h
    refine ⟨_, hbody cdv A outer s H E hr, ?_⟩
    have hl := runD_len e
    unfold runD at e
    rw [if_pos hl] at e
    have rs := rs_start (nl := nl) .no r (N := N) (by omega)
    split at e
    · rename_i d' eg
      cases e
      exact ⟨_, _, _, rs, eg, fun v H' z _ => by
        obtain ⟨A', t, nd, fr⟩ := z.2.1 rfl
        exact kk v H' A' z.1 t nd fr⟩
    · rename_i δ' eg
      cases e
      exact ⟨_, _, _, rs, eg, fun σ' H' R' rs' _ => kk .non H' [] rs'.keep ⟨rfl, rfl⟩ List.nodup_nil (fun a z => nomatch z)⟩
    · cases e
theorem defN {x qual : Str} {st : Stmt} {f : Addr} {fd : FuncData} {N ps : List Str} {k np nl : Nat} {g : SS → Option Out} (F : Fun K x qual st f fd) (hm : mg x = some (.ref f)) (hb : Binds K fd ps []) (S : FnScope N ps (defScope st)) (hnp : ps.length = np) (hN : N.length = np + nl)
    (hbody : ∀ (cdv : Value) (A : Around) (outer : List Env) (s : Shared) (H : Hp) (E : XK), Room k (A.deeper (envOfC qual (defScope st) s.heap.objs.size f cdv)) →
      PSs (cxOf CX0 P w K mg base N qual (defScope st) f cdv A outer s H E).nox (defBody st) (tS K H noB true noX g)) : DefOk P w K mg base (k + 1) x (spN K (runD np nl g)) :=
  ⟨f, fd, ps, hm, F.kp, hb, fnN F S hnp hN hbody⟩
end
end L2

/-! ### E6: Python's own functions and operators by trees -/
namespace L2
open PySem PySem.Spec PyProof.Rows PySem.SeqAt

mutual
def toP : D → PyData
  | .non => .none
  | .bl b => .bool b
  | .int i => .int i
  | .str x => .str x
  | .lst ds => .list (toPs ds)
  | .tup ds => .tuple (toPs ds)
  | .scr ns => .list (ns.map .int)
  | .dct _ _ => .dict []
  | .exc _ => .dict []
  | .obj _ _ _ _ => .dict []
def toPs : List D → List PyData
  | [] => []
  | d :: ds => toP d :: toPs ds
end
theorem ints_reads {h : Heap} : ∀ (ns : List Int) {us : List Value}, Vals (ns.map V.int) us → ∃ as, ReadsAll h us (ns.map .int) as
  | [], _, .nil => ⟨_, .nil⟩
  | n :: ns, _, .cons r t => by
    obtain ⟨tk, rfl⟩ := r
    obtain ⟨as, ra⟩ := ints_reads (h := h) ns t
    exact ⟨_, .cons (.int n tk) ra⟩
section
variable {X : Cx} {pins : List (Addr × Obj)} {σ : St} {H : Hp} {s : Shared} {B : Addr → Prop}
mutual
theorem rep_reads (I : Inv X pins σ H s) : ∀ (d : D) {v : V} {u : Value}, (toP d).canLay0 = true → Rep X.K H B d v → RelV v u → ∃ as, Reads s.heap u (toP d) as
  | .non, _, _, _, h, r => by cases h; cases r; exact ⟨_, .none⟩
  | .bl b, _, _, _, h, r => by cases h; cases r; exact ⟨_, .bool b⟩
  | .int i, _, _, _, h, r => by cases h; obtain ⟨t, rfl⟩ := r; exact ⟨_, .int i t⟩
  | .str x, _, _, _, h, r => by cases h; obtain ⟨t, rfl⟩ := r; exact ⟨_, .str x t⟩
  | .lst ds, _, _, hc, h, r => by
    unfold Rep at h
    obtain ⟨a, xs, rfl, _, hq, rs⟩ := h
    cases r
    obtain ⟨its, rv, ⟨o, n, e, c, _, dt⟩, _⟩ := I.list (SqL.of hq)
    have hc' : PyData.canLayAll0 (toPs ds) = true := by unfold toP PyData.canLay0 at hc; exact hc
    obtain ⟨as, ra⟩ := reps_reads I ds hc' rs rv
    unfold toP
    exact ⟨_, .list e c dt (by simpa using ra)⟩
  | .tup ds, _, _, hc, h, r => by
    unfold Rep at h
    obtain ⟨a, xs, rfl, hq, rs⟩ := h
    cases r
    obtain ⟨its, rv, ⟨o, e, c, n, dt⟩, _⟩ := I.tuple hq
    have hc' : PyData.canLayAll0 (toPs ds) = true := by unfold toP PyData.canLay0 at hc; exact hc
    obtain ⟨as, ra⟩ := reps_reads I ds hc' rs rv
    unfold toP
    exact ⟨_, .tuple e c dt (by simpa using ra)⟩
  | .scr ns, _, _, hc, h, r => by
    unfold Rep at h
    obtain ⟨a, rfl, hq⟩ := h
    cases r
    obtain ⟨its, rv, ⟨o, n, e, c, _, dt⟩, _⟩ := I.list hq.sq
    unfold toP
    obtain ⟨as, ra⟩ := ints_reads (h := s.heap) ns rv
    exact ⟨_, .list e c dt (by simpa using ra)⟩
  | .dct _ _, _, _, hc, _, _ => by unfold toP PyData.canLay0 at hc; cases hc
  | .exc _, _, _, hc, _, _ => by unfold toP PyData.canLay0 at hc; cases hc
  | .obj _ _ _ _, _, _, hc, _, _ => by unfold toP PyData.canLay0 at hc; cases hc
theorem reps_reads (I : Inv X pins σ H s) : ∀ (ds : List D) {xs : List V} {us : List Value}, PyData.canLayAll0 (toPs ds) = true → Reps X.K H B ds xs → Vals xs us → ∃ as, ReadsAll s.heap us (toPs ds) as
  | [], _, _, _, h, r => by
    unfold Reps at h
    subst h
    cases r
    exact ⟨_, .nil⟩
  | d :: ds, _, _, hc, h, r => by
    unfold Reps at h
    obtain ⟨x, rr, rfl, h1, h2⟩ := h
    unfold toPs PyData.canLayAll0 at hc
    rw [Bool.and_eq_true] at hc
    cases r with
    | cons r1 r2 =>
      obtain ⟨as, ra⟩ := rep_reads I d hc.1 h1 r1
      obtain ⟨bs, rb⟩ := reps_reads I ds hc.2 h2 r2
      unfold toPs
      exact ⟨_, .cons ra rb⟩
end
end
/-- what may be compared -/
def okP (d : D) : Bool := (toP d).canLay0 && decide ((toP d).depth ≤ 60)
def eqD (x y : D) : Option D := if (okP x && okP y) = true then some (.bl (PyData.eqv (toP x) (toP y))) else none
def neD (x y : D) : Option D := if (okP x && okP y) = true then some (.bl (!PyData.eqv (toP x) (toP y))) else none
def memD (x : D) : D → Option Bool
  | .lst ds => if (okP x && okP (.lst ds)) = true then some (ds.any fun y => PyData.eqv (toP y) (toP x)) else none
  | .tup ds => if (okP x && okP (.tup ds)) = true then some (ds.any fun y => PyData.eqv (toP y) (toP x)) else none
  | _ => none
def ninD (x y : D) : Option D := (memD x y).map fun b => .bl (!b)
def rEqD (K : PySem.W.Frag) : R2 := fun x y H Q => ∃ B dx dy, Rep K H B dx x ∧ Rep K H B dy y ∧ okP dx = true ∧ okP dy = true ∧ Q (.bl (PyData.eqv (toP dx) (toP dy))) H
def rNeD (K : PySem.W.Frag) : R2 := fun x y H Q => ∃ B dx dy, Rep K H B dx x ∧ Rep K H B dy y ∧ okP dx = true ∧ okP dy = true ∧ Q (.bl (!PyData.eqv (toP dx) (toP dy))) H
theorem okP_get {d : D} (h : okP d = true) : (toP d).canLay0 = true ∧ (toP d).depth ≤ 60 := by
  unfold okP at h
  rw [Bool.and_eq_true, decide_eq_true_eq] at h
  exact h
section
variable {X : Cx}
theorem op_eqD (hu : X.A.units + 64 < cLine) : OpR X (compareOp .Eq) (rEqD X.K) := by
  intro pins s σ H x y v u Q I rx ry h
  obtain ⟨B, dx, dy, r1, r2, o1, o2, q⟩ := h
  obtain ⟨as, ra⟩ := rep_reads I dx (okP_get o1).1 r1 rx
  obtain ⟨bs, rb⟩ := rep_reads I dy (okP_get o2).1 r2 ry
  exact compareEq_reads ra rb (okP_get o1).1 (okP_get o2).1 (by have := (okP_get o1).2; omega) ⟨.bl _, H, I, rfl, q⟩
theorem op_neD (hu : X.A.units + 64 < cLine) : OpR X (compareOp .NotEq) (rNeD X.K) := by
  intro pins s σ H x y v u Q I rx ry h
  obtain ⟨B, dx, dy, r1, r2, o1, o2, q⟩ := h
  obtain ⟨as, ra⟩ := rep_reads I dx (okP_get o1).1 r1 rx
  obtain ⟨bs, rb⟩ := rep_reads I dy (okP_get o2).1 r2 ry
  exact compareNe_reads ra rb (okP_get o1).1 (okP_get o2).1 (by have := (okP_get o1).2; omega) ⟨.bl _, H, I, rfl, q⟩
theorem o2_eq {K : PySem.W.Frag} : Op2 K (rEqD K) eqD := by
  intro H B dx dy d x y Q hB hx hy q k
  unfold eqD at q
  split at q
  · rename_i h
    rw [Bool.and_eq_true] at h
    cases q
    exact ⟨B, dx, dy, hx, hy, h.1, h.2, k _ H (.refl H) rfl⟩
  · cases q
theorem o2_ne {K : PySem.W.Frag} : Op2 K (rNeD K) neD := by
  intro H B dx dy d x y Q hB hx hy q k
  unfold neD at q
  split at q
  · rename_i h
    rw [Bool.and_eq_true] at h
    cases q
    exact ⟨B, dx, dy, hx, hy, h.1, h.2, k _ H (.refl H) rfl⟩
  · cases q
theorem toPs_any (p : PyData → Bool) : ∀ ds : List D, (toPs ds).any p = ds.any fun y => p (toP y)
  | [] => rfl
  | d :: ds => by unfold toPs; rw [List.any_cons, List.any_cons, toPs_any p ds]
def rInD (K : PySem.W.Frag) (neg : Bool) : R2 := fun x y H Q => ∃ B dx dy b, Rep K H B dx x ∧ Rep K H B dy y ∧ memD dx dy = some b ∧ Q (.bl (if neg then !b else b)) H
theorem op_ninD (hu : X.A.units + 64 < cLine) : OpR X (compareOp .NotIn) (rInD X.K true) := by
  intro pins s σ H x y v u Q I rx ry h
  obtain ⟨B, dx, dy, b, r1, r2, o, q⟩ := h
  unfold memD at o
  split at o
  · split at o
    · rename_i ds h
      rw [Bool.and_eq_true] at h
      cases o
      obtain ⟨as, ra⟩ := rep_reads I dx (okP_get h.1).1 r1 rx
      obtain ⟨bs, rb⟩ := rep_reads I _ (okP_get h.2).1 r2 ry
      have hc := (okP_get h.2).1
      unfold toP at rb hc
      unfold PyData.canLay0 at hc
      refine notIn_list_reads rb ra hc (okP_get h.1).1 (by have := (okP_get h.1).2; omega) ?_
      rw [toPs_any]
      exact ⟨.bl _, H, I, rfl, q⟩
    · cases o
  · split at o
    · rename_i ds h
      rw [Bool.and_eq_true] at h
      cases o
      obtain ⟨as, ra⟩ := rep_reads I dx (okP_get h.1).1 r1 rx
      obtain ⟨bs, rb⟩ := rep_reads I _ (okP_get h.2).1 r2 ry
      have hc := (okP_get h.2).1
      unfold toP at rb hc
      unfold PyData.canLay0 at hc
      refine notIn_tuple_reads rb ra hc (okP_get h.1).1 (by have := (okP_get h.1).2; omega) ?_
      rw [toPs_any]
      exact ⟨.bl _, H, I, rfl, q⟩
    · cases o
  · cases o
theorem o2_nin {K : PySem.W.Frag} : Op2 K (rInD K true) ninD := by
  intro H B dx dy d x y Q hB hx hy q k
  unfold ninD at q
  cases e : memD dx dy with
  | none => rw [e] at q; cases q
  | some b =>
    rw [e] at q
    cases q
    exact ⟨B, dx, dy, b, hx, hy, e, k _ H (.refl H) rfl⟩

/-! ### built-in functions -/
def OpA (K : PySem.W.Frag) (r : List V → Hp → VK → Prop) (F : List D → Option D) : Prop := ∀ (H : Hp) (B : Addr → Prop) (ds : List D) (d : D) (vs : List V) (Q : VK), InB B H → Reps K H B ds vs → F ds = some d → (∀ v H', Same H H' → Rep K H' B d v → Q v H') → r vs H Q
def OpL (K : PySem.W.Frag) (r : List V → Hp → VK → Prop) (F : List D → Option (List D)) : Prop := ∀ (H : Hp) (B : Addr → Prop) (ds es : List D) (vs : List V) (Q : VK), InB B H → Reps K H B ds vs → F ds = some es →
  (∀ a xs H', Same H H' → H a = none → H' a = some (.lst xs) → Reps K H' B es xs → Q (.ref a) H') → r vs H Q
def dCallL (F : List D → Option (List D)) (fl : List DE) : DS → Option (List D) := fun δ => (dArgs fl δ).bind F
variable {x : Str} {bid T : String} {r : List V → Hp → VK → Prop} {e : Expr} {es : List Expr} {p pos : Pos} {fl : List DE}
theorem callA {F : List D → Option D} (ho : OpA X.K r F) (σ : St) (H : Hp) (Q : VK) (h : tD X.K (dCall F fl) σ H Q) : tCB r (tDs X.K (dArgs fl)) σ H Q := by
  obtain ⟨B, δ, d, hB, S, q, k⟩ := h
  obtain ⟨ds, e1, e2⟩ := dCall_some q
  exact ⟨B, δ, ds, hB, S, e1, fun vs H1 s1 r1 => ho H1 B ds d vs Q (hB.mono s1) r1 e2 fun v H' s' rv => k v H' (s1.trans s') rv⟩
theorem callL {F : List D → Option (List D)} (ho : OpL X.K r F) (σ : St) (H : Hp) (Q : VK) (h : tF X.K (dCallL F fl) σ H Q) : tCB r (tDs X.K (dArgs fl)) σ H Q := by
  obtain ⟨B, δ, d, hB, S, q, k⟩ := h
  unfold dCallL at q
  cases e1 : dArgs fl δ with
  | none => rw [e1] at q; cases q
  | some ds =>
    rw [e1] at q
    exact ⟨B, δ, ds, hB, S, e1, fun vs H1 s1 r1 => ho H1 B ds d vs Q (hB.mono s1) r1 q fun a xs H' s' hn ha rv => k a xs H' (s1.trans s') (s1.free hn) ha rv⟩
theorem pd_callB {F : List D → Option D} (hc : CallR X (.builtin bid) r) (hD : OpA X.K r F) (hg : Gl X x) (hm : X.mg x = none) (hv : bootBuiltins x = some (.builtin bid)) (ha : PAD X (e :: es) fl) (hn : x ≠ "__name__" := by decide) (hdb : (x == ("__debug__" : Str)) = false := by decide)
    (he : starEach (e :: es) X.env = (false, eval e X.env) :: starEach es X.env := by rfl) (hpl : (backTo pos (starEach es X.env)).any (·.1) = false := by rfl) : PD X (.Call (.Name x p) (e :: es) [] pos) (dCall F fl) :=
  (pe_callB hc hg hm hv ha hn hdb he hpl).imp (callA hD)
theorem pd_callT {F : List D → Option D} (hc : CallR X (.type T) r) (hD : OpA X.K r F) (hg : Gl X x) (hm : X.mg x = none) (hv : bootBuiltins x = some (.type T)) (ha : PAD X (e :: es) fl) (hn : x ≠ "__name__" := by decide) (hdb : (x == ("__debug__" : Str)) = false := by decide)
    (he : starEach (e :: es) X.env = (false, eval e X.env) :: starEach es X.env := by rfl) (hpl : (backTo pos (starEach es X.env)).any (·.1) = false := by rfl) : PD X (.Call (.Name x p) (e :: es) [] pos) (dCall F fl) :=
  (pe_callTy hc hg hm hv ha hn hdb he hpl).imp (callA hD)
theorem pf_callT {F : List D → Option (List D)} (hc : CallR X (.type T) r) (hD : OpL X.K r F) (hg : Gl X x) (hm : X.mg x = none) (hv : bootBuiltins x = some (.type T)) (ha : PAD X (e :: es) fl) (hn : x ≠ "__name__" := by decide) (hdb : (x == ("__debug__" : Str)) = false := by decide)
    (he : starEach (e :: es) X.env = (false, eval e X.env) :: starEach es X.env := by rfl) (hpl : (backTo pos (starEach es X.env)).any (·.1) = false := by rfl) : PF X (.Call (.Name x p) (e :: es) [] pos) (dCallL F fl) :=
  (pe_callTy hc hg hm hv ha hn hdb he hpl).imp (callL hD)
theorem reps1 {K : PySem.W.Frag} {H : Hp} {B : Addr → Prop} {d : D} {vs : List V} (h : Reps K H B [d] vs) : ∃ v, vs = [v] ∧ Rep K H B d v := by
  unfold Reps at h
  obtain ⟨x, r, rfl, h1, h2⟩ := h
  unfold Reps at h2
  subst h2
  exact ⟨x, rfl, h1⟩
/-- len -/
def lenF : List D → Option D
  | [.lst ds] => some (.int ds.length)
  | [.tup ds] => some (.int ds.length)
  | [.scr ns] => some (.int ns.length)
  | _ => none
theorem oa_len {K : PySem.W.Frag} : OpA K (fun xs H Q => ∃ x n, xs = [x] ∧ LenV K x H n ∧ Q (.int n) H) lenF := by
  intro H B ds d vs Q hB hr q k
  unfold lenF at q
  split at q
  · cases q
    obtain ⟨v, rfl, r⟩ := reps1 hr
    unfold Rep at r
    obtain ⟨a, xs, rfl, _, h, rs⟩ := r
    refine ⟨.ref a, xs.length, rfl, .inl ⟨xs, SqL.of h, rfl⟩, k _ H (.refl H) ?_⟩
    show V.int _ = V.int _
    rw [rs.length]
  · cases q
    obtain ⟨v, rfl, r⟩ := reps1 hr
    unfold Rep at r
    obtain ⟨a, xs, rfl, h, rs⟩ := r
    refine ⟨.ref a, xs.length, rfl, .inr ⟨xs, h, rfl⟩, k _ H (.refl H) ?_⟩
    show V.int _ = V.int _
    rw [rs.length]
  · cases q
    obtain ⟨v, rfl, r⟩ := reps1 hr
    unfold Rep at r
    obtain ⟨a, rfl, h⟩ := r
    exact ⟨.ref a, _, rfl, .inl ⟨_, h.sq, (List.length_map ..).symm⟩, k _ H (.refl H) rfl⟩
  · cases q
theorem pd_len {f : DE} (hg : Gl X "len") (hm : X.mg "len" = none) (h : PD X e f) (he : starEach [e] X.env = [(false, eval e X.env)] := by rfl) : PD X (.Call (.Name "len" p) [e] [] pos) (dCall lenF [f]) :=
  pd_callB call_len oa_len hg hm PySem.boot_len (pad_cons h pad_nil he) (by decide) (by decide) he rfl
/-- all, any, sum of a list -/
def bools : List D → Option (List Bool)
  | [] => some []
  | .bl b :: r => (bools r).map (b :: ·)
  | _ => none
def ints' : List D → Option (List Int)
  | [] => some []
  | .int i :: r => (ints' r).map (i :: ·)
  | _ => none
/-- list(x) of a list or a tuple -/
def listF : List D → Option (List D)
  | [.lst ds] => some ds
  | [.tup ds] => some ds
  | [.scr ns] => some (ns.map .int)
  | _ => none
theorem ol_list {K : PySem.W.Frag} : OpL K (fun xs H Q => ∃ p ys, xs = [.ref p] ∧ (SqL K H p ys ∨ SqT K H p ys) ∧ ∀ l, H l = none → Q (.ref l) (upd H l (.lst ys))) listF := by
  intro H B ds es vs Q hB hr q k
  unfold listF at q
  split at q
  · cases q
    obtain ⟨v, rfl, r⟩ := reps1 hr
    unfold Rep at r
    obtain ⟨a, xs, rfl, _, h, rs⟩ := r
    exact ⟨a, xs, rfl, .inl (SqL.of h), fun l hl => k l xs _ (same_upd hl) hl upd_same (rs.mono (same_upd hl))⟩
  · cases q
    obtain ⟨v, rfl, r⟩ := reps1 hr
    unfold Rep at r
    obtain ⟨a, xs, rfl, h, rs⟩ := r
    exact ⟨a, xs, rfl, .inr h, fun l hl => k l xs _ (same_upd hl) hl upd_same (rs.mono (same_upd hl))⟩
  · cases q
    obtain ⟨v, rfl, r⟩ := reps1 hr
    unfold Rep at r
    obtain ⟨a, rfl, h⟩ := r
    exact ⟨a, _, rfl, .inl h.sq, fun l hl => k l _ _ (same_upd hl) hl upd_same (reps_ints _)⟩
  · cases q
theorem pf_listOf {f : DE} (hg : Gl X "list") (hm : X.mg "list" = none) (h : PD X e f) (he : starEach [e] X.env = [(false, eval e X.env)] := by rfl) : PF X (.Call (.Name "list" p) [e] [] pos) (dCallL listF [f]) :=
  pf_callT call_list_of ol_list hg hm PyProof.Rows.Boot.«list» (pad_cons h pad_nil he) (by decide) (by decide) he rfl
/-- tuple(x) -/
def tupF : List D → Option D
  | [.lst ds] => some (.tup ds)
  | [.tup ds] => some (.tup ds)
  | _ => none
theorem oa_tup {K : PySem.W.Frag} : OpA K (fun xs H Q => ∃ p ys, xs = [.ref p] ∧ ((SqL K H p ys ∧ ∀ l, H l = none → Q (.ref l) (upd H l (.tup ys))) ∨ (SqT K H p ys ∧ Q (.ref p) H))) tupF := by
  intro H B ds d vs Q hB hr q k
  unfold tupF at q
  split at q
  · cases q
    obtain ⟨v, rfl, r⟩ := reps1 hr
    unfold Rep at r
    obtain ⟨a, xs, rfl, _, h, rs⟩ := r
    exact ⟨a, xs, rfl, .inl ⟨SqL.of h, fun l hl => k _ _ (same_upd hl) (by unfold Rep; exact ⟨l, xs, rfl, SqT.of upd_same, rs.mono (same_upd hl)⟩)⟩⟩
  · cases q
    obtain ⟨v, rfl, r⟩ := reps1 hr
    have r0 := r
    unfold Rep at r
    obtain ⟨a, xs, rfl, h, rs⟩ := r
    exact ⟨a, xs, rfl, .inr ⟨h, k _ _ (.refl H) r0⟩⟩
  · cases q
theorem pd_tupOf {f : DE} (hg : Gl X "tuple") (hm : X.mg "tuple" = none) (h : PD X e f) (he : starEach [e] X.env = [(false, eval e X.env)] := by rfl) : PD X (.Call (.Name "tuple" p) [e] [] pos) (dCall tupF [f]) :=
  pd_callT call_tuple_of oa_tup hg hm PyProof.Rows.Boot.«tuple» (pad_cons h pad_nil he) (by decide) (by decide) he rfl
end
end L2

/-! ### E7: isinstance; lists that are owned, changed -/
namespace L2
open PySem PySem.Spec PyProof.Rows

def tyN : D → String
  | .non => "NoneType"
  | .bl _ => "bool"
  | .int _ => "int"
  | .str _ => "str"
  | .lst _ => "list"
  | .tup _ => "tuple"
  | .scr _ => "list"
  | .dct _ _ => "dict"
  | .exc _ => "object"
  | .obj _ _ _ _ => "object"
/-- isinstance(x, T) for these T -/
inductive IsT : String → Prop where
  | bool : IsT "bool" | int : IsT "int" | str : IsT "str" | list : IsT "list" | tuple : IsT "tuple" | dict : IsT "dict"
def isF (T : String) (d : D) : Bool := tyN d == T || (tyN d == "bool" && T == "int")
theorem kit_tt (K : PySem.W.Frag) {T : String} (h : IsT T) (d : D) (hd : ∀ x, d ≠ .exc x) (hd2 : ∀ x a ks ds, d ≠ .obj x a ks ds) : PySem.W.kitOne K (.type (tyN d)) (.type T) = some (isF T d) := by
  cases h <;> cases d <;> first | kernel_rfl | exact absurd rfl (hd _) | exact absurd rfl (hd2 _ _ _ _)
section
variable {prog : Program} {w : World} {A : Around} {E : Value → Shared → Prop} {K : PySem.W.Frag} {x D : Addr} {ox : Obj} {s : Shared}
/-- the class of an exception of the program's own, by its name __class__ -/
theorem exc_class {Q : Option Value → Shared → Prop} (X : K.In s.heap) (I : PySem.W.InstAt s.heap x ox D none) (hga : PySem.W.findIn K (.ref D) "__getattribute__" = some (some (.builtin "BaseException.__getattribute__"))) (hgh : PySem.W.findIn K (.ref D) "__getattr__" = some none)
    (hf : PySem.W.findObj K D none "__class__" = some (.bind (.builtin "getset_descriptor.__get__") (.builtin "object.__class__"))) (hm : PySem.W.mroIn K D (.type "object") = some true) (hb : PySem.W.mroIn K D (.type "BaseException") = some true)
    (h : Q (some (.ref D)) { s with toks := s.toks + 1 }) : wpAny (model prog w) A (getAttr? (.ref x) "__class__") Q E s := by
  obtain ⟨hp, gs, dr, tk, os⟩ := s
  have T0 := I.type (M := model prog w)
  have T1 := PySem.W.looks_findIn (M := model prog w) X hga
  have T2 := PySem.W.looks_findIn (M := model prog w) X hgh
  have T3 := PySem.W.looks_find (M := model prog w) X I hf
  have T4 := PySem.W.looks_mroIn (M := model prog w) X hb
  have hne : (onTheHeap (Value.ref D) && Value.builtin "BaseException.__getattribute__" == Value.builtin "object.__getattribute__") = false := by
    have z : (Value.builtin "BaseException.__getattribute__" == Value.builtin "object.__getattribute__") = false := by decide +kernel
    rw [z, Bool.and_false]
  unfold getAttr? getAttrBy?
  refine wpAny_bind (wpAny_mkText ?_)
  refine wpAny_bind (wpAny_attempt ?_)
  unfold getAttrBy
  refine wpAny_holding (wpAny_bind (T0.at ?_))
  refine wpAny_bind (T1.at ?_)
  dsimp only
  rw [hne, if_neg Bool.false_ne_true]
  unfold getAttrByItsOwn hookBefore
  rw [if_pos (show onTheHeap (Value.ref D) = true from rfl)]
  refine wpAny_bind (T2.at ?_)
  refine wpAny_bind (wpAny_attempt (wpAny_holding ?_))
  unfold callGetattribute boundAndCalled
  rw [Bool.false_and, if_neg Bool.false_ne_true, F.excAttr_ValueError.ga.bind]
  refine wpAny_bind (wpAny_pure ?_)
  refine wpAny_call (codeAny_call_builtin F.excAttr_ValueError.ga.plain F.entry_bexc_ga ?_)
  have k1 : builtinKind "BaseException.__getattribute__" = some .slot := by decide +kernel
  have k2 : splitId "BaseException.__getattribute__" = some ("BaseException", "__getattribute__") := by decide +kernel
  simp only [checkBuiltinCall, k1, k2]
  have ha := F.args_bexc_ga (.ref x) (.str "__class__" tk)
  have TI : PySem.W.Looks (model prog w) hp (isInstance (.ref x) (.type "BaseException")) true := T0.andThen T4
  show wpAny _ _ (isInstance (.ref x) (.type "BaseException") >>= _) _ _ _
  refine wpAny_bind (TI.at ?_)
  rw [if_neg (by decide)]
  unfold argsOk at ha
  refine wpAny_of_eq (a := ()) ha ?_
  unfold Builtin.«object.__getattribute__»
  refine wpAny_bind (wpAny_of_eq (a := (Value.ref x, [Value.str "__class__" tk])) rfl ?_)
  dsimp only
  refine wpAny_bind (wpAny_of_eq (a := ("__class__" : Str)) rfl ?_)
  refine wpAny_bind (T0.at ?_)
  refine wpAny_bind (T3.at ?_)
  show wpAny _ _ (holding [Value.builtin "object.__class__"] (call (.builtin "getset_descriptor.__get__") [.builtin "object.__class__", .ref x, .ref D]) >>= ret) _ _ _
  refine wpAny_bind (wpAny_holding (wpAny_call (PySem.W.class_get X I hm ?_)))
  refine wpAny_pure ?_
  exact PySem.W.handed_on rfl (wpAny_pure h)
end
theorem xcls_of {K : PySem.W.Frag} {C : Addr} (h : xclsB K C = true) : PySem.W.findIn K (.ref C) "__getattribute__" = some (some (.builtin "BaseException.__getattribute__")) ∧ PySem.W.findIn K (.ref C) "__getattr__" = some none ∧ PySem.W.mroIn K C (.type "BaseException") = some true ∧ (PySem.W.clsIn K C).isSome = true ∧
    PySem.W.findIn K (.ref C) "__class__" = some (some (.builtin "object.__class__")) ∧ PySem.W.specialIn K (.builtin "object.__class__") "__get__" = some (some (.builtin "getset_descriptor.__get__")) ∧ PySem.W.takesIn K (.builtin "object.__class__") = some true ∧ PySem.W.mroIn K C (.type "object") = some true := by
  unfold xclsB at h
  simp only [Bool.and_eq_true, beq_iff_eq] at h
  exact ⟨h.1.1.1.1.1.1.1.1, h.1.1.1.1.1.1.1.2, h.1.1.1.1.1.1.2, h.1.1.1.1.1.2, h.1.1.1.1.2, h.1.1.1.2, h.1.1.2, h.1.2⟩
theorem icls_of {K : PySem.W.Frag} {C : Addr} {ks : List Str} (h : iclsB K C ks = true) : Cls K C ∧ PySem.W.findIn K (.ref C) "__class__" = some (some (.builtin "object.__class__")) ∧ PySem.W.specialIn K (.builtin "object.__class__") "__get__" = some (some (.builtin "getset_descriptor.__get__")) ∧ PySem.W.takesIn K (.builtin "object.__class__") = some true ∧ PySem.W.mroIn K C (.type "object") = some true ∧
    (["bool", "int", "str", "list", "tuple", "dict"].all fun T => PySem.W.kitOne K (.ref C) (.type T) == some false) = true ∧ ∀ f ∈ ks, NoAttr K C f := by
  unfold iclsB at h
  rw [Bool.and_eq_true_iff, Bool.and_eq_true_iff, Bool.and_eq_true_iff, Bool.and_eq_true_iff, Bool.and_eq_true_iff, Bool.and_eq_true_iff, Bool.and_eq_true_iff, Bool.and_eq_true_iff, Bool.and_eq_true_iff] at h
  obtain ⟨⟨⟨⟨⟨⟨⟨⟨⟨a1, a2⟩, a3⟩, a4⟩, a5⟩, a6⟩, a7⟩, a8⟩, a9⟩, a10⟩ := h
  rw [List.all_eq_true] at a10
  exact ⟨⟨a1, a2, a3, beq_iff_eq.mp a4⟩, beq_iff_eq.mp a5, beq_iff_eq.mp a6, beq_iff_eq.mp a7, beq_iff_eq.mp a8, a9, fun f hf => beq_iff_eq.mp (a10 f hf)⟩
/-- an exception answers isinstance by its class -/
theorem kitx_exc {K : PySem.W.Frag} {x C : Addr} {ox : Obj} (h : xclsB K C = true) : PySem.W.KitX K (.ref x) (.ref C) (fun g => PySem.W.InstAt g x ox C none) := by
  obtain ⟨g1, g2, g3, h2, h3, h4, h5, h6⟩ := xcls_of h
  obtain ⟨cd, hcd⟩ := Option.isSome_iff_exists.mp h2
  have hk : ∃ c d sl, K.lookup C = some ⟨c, d, .cls cd, sl⟩ := by
    unfold PySem.W.clsIn at hcd
    split at hcd
    · cases hcd; exact ⟨_, _, _, by assumption⟩
    · cases hcd
  obtain ⟨c0, d0, sl0, hk⟩ := hk
  have hf : PySem.W.findObj K C none "__class__" = some (.bind (.builtin "getset_descriptor.__get__") (.builtin "object.__class__")) := by
    unfold PySem.W.findObj
    rw [hcd, Option.bind_some, h3, Option.bind_some]
    simp [h4, h5]
  refine ⟨fun _ _ _ I => I.type, fun _ _ X _ => ?_, fun g tp dd its n sl X ht => ?_, fun X I k => ?_⟩
  · intro A' Q' E' s' kk q
    unfold isType loadHead
    exact wpAny_bind (wpAny_loadPart (kk _ _ (X _ _ hk)) (wpAny_pure q))
  · cases hz : (Value.ref C == Value.ref tp) with
    | false => rfl
    | true =>
      have e : C = tp := Value.ref.inj (beq_iff_eq.mp hz)
      rw [← e] at ht
      have z := (X _ _ hk).symm.trans ht
      cases z
  · exact exc_class X I g1 g2 hf h6 g3 k
theorem exc_at {X : Cx} {pins : List (Addr × Obj)} {σ : St} {H : Hp} {s : Shared} {a C : Addr} (I : Inv X pins σ H s) (h : H a = some (.ext (isX a C))) : ∃ o, PySem.W.InstAt s.heap a o C none := by
  obtain ⟨⟨o, h1, h2, h3, h4⟩, _⟩ := (show ObjOk X.prog X.w H s.heap a (.ext (isX a C)) from I.hok a _ h)
  exact ⟨o, h1, h2, h4, by rw [h3]; trivial⟩
section
variable {X : Cx} {pins : List (Addr × Obj)} {σ : St} {H : Hp} {s : Shared} {B : Addr → Prop} {A : Around} {E : Value → Shared → Prop} {Q : Value → Shared → Prop}
theorem isinst_rep {d : D} {v : V} {u : Value} {T : String} (I : Inv X pins σ H s) (r : Rep X.K H B d v) (rv : RelV v u) (hT : IsT T) (h : ∀ tk, Q (.bool (isF T d)) { s with toks := tk }) : wpAny (model X.prog X.w) A (call (.builtin "isinstance") [u, .type T]) Q E s := by
  by_cases hd : ∃ x, d = .exc x
  · obtain ⟨x, rfl⟩ := hd
    unfold Rep at r
    obtain ⟨a, C, rfl, _, hq, _, hx⟩ := r
    cases rv
    obtain ⟨o, ie⟩ := exc_at I hq
    have e : PySem.W.kitOne X.K (.ref C) (.type T) = some (isF T (.exc x)) := by
      have h6 := (Bool.and_eq_true_iff.mp hx).2
      rw [List.all_eq_true] at h6
      have h7 := beq_iff_eq.mp (h6 T (by cases hT <;> decide))
      rw [h7]
      cases hT <;> rfl
    exact PySem.W.kia_one (kitx_exc hx) I.kIn ie e (fun z => nomatch z) h
  have hd : ∀ x, d ≠ .exc x := fun x z => hd ⟨x, z⟩
  by_cases hd2 : ∃ x a ks ds, d = .obj x a ks ds
  · obtain ⟨x, a, ks, ds, rfl⟩ := hd2
    unfold Rep at r
    obtain ⟨C, dx, fs, _, hq, ⟨rfl, _, hx, _⟩, _⟩ := r
    cases rv
    obtain ⟨cl, h3, h4, h5, h6, h7, _⟩ := icls_of hx
    obtain ⟨mA, O, _⟩ := ins_get I.hok hq
    obtain ⟨od, J, _⟩ := O.look
    have e : PySem.W.kitOne X.K (.ref C) (.type T) = some (isF T (.obj x a ks ds)) := by
      rw [List.all_eq_true] at h7
      have h8 := beq_iff_eq.mp (h7 T (by cases hT <;> decide))
      rw [h8]
      cases hT <;> rfl
    exact PySem.W.kia_one (PySem.W.kitx_own (cl.get _) cl.hd h3 h4 h5 h6) I.kIn J e (fun z => nomatch z) h
  have e := kit_tt X.K hT d hd (fun x a ks ds z => hd2 ⟨x, a, ks, ds, z⟩)
  cases d with
  | exc x => exact absurd rfl (hd x)
  | obj x a ks ds => exact absurd ⟨x, a, ks, ds, rfl⟩ hd2
  | non => cases r; cases rv; exact PySem.W.kia_one PySem.W.kitx_none I.kIn True.intro e (fun z => nomatch z) h
  | bl y => cases r; cases rv; exact PySem.W.kia_one PySem.W.kitx_bool I.kIn True.intro e (fun z => nomatch z) h
  | int i => cases r; obtain ⟨t, q⟩ := rv; cases q; exact PySem.W.kia_one PySem.W.kitx_int I.kIn True.intro e (fun z => nomatch z) h
  | str y => cases r; obtain ⟨t, q⟩ := rv; cases q; exact PySem.W.kia_one PySem.W.kitx_str I.kIn True.intro e (fun z => nomatch z) h
  | lst ds =>
    unfold Rep at r
    obtain ⟨a, xs, rfl, _, hq, _⟩ := r
    cases rv
    obtain ⟨its, _, ⟨o, n, e1, c, _⟩, _⟩ := I.list (SqL.of hq)
    exact PySem.W.kia_one PySem.W.kitx_list I.kIn ⟨o, e1, c⟩ e (fun z => nomatch z) h
  | tup ds =>
    unfold Rep at r
    obtain ⟨a, xs, rfl, hq, _⟩ := r
    cases rv
    obtain ⟨its, _, ⟨o, e1, c, _⟩, _⟩ := I.tuple hq
    exact PySem.W.kia_one PySem.W.kitx_tuple I.kIn ⟨o, e1, c⟩ e (fun z => nomatch z) h
  | scr ns =>
    unfold Rep at r
    obtain ⟨a, rfl, hq⟩ := r
    cases rv
    obtain ⟨its, _, ⟨o, n, e1, c, _⟩, _⟩ := I.list hq.sq
    exact PySem.W.kia_one PySem.W.kitx_list I.kIn ⟨o, e1, c⟩ e (fun z => nomatch z) h
  | dct ks ds =>
    unfold Rep at r
    obtain ⟨a, kvs, rfl, _, ea, _⟩ := r
    cases rv
    obtain ⟨_, _, vs, _, p⟩ := (show ObjOk X.prog X.w H s.heap a (.dK kvs) from I.hok a _ ea)
    obtain ⟨o, es, ep, h1, h2, _⟩ := p
    exact PySem.W.kia_one PySem.W.kitx_dict I.kIn ⟨o, h1, h2.1⟩ e (fun z => nomatch z) h
end
section
variable {X : Cx} {e : Expr} {p p2 pos : Pos}
def dIs (T : String) (f : DE) : DE := fun δ => (f δ).map fun d => .bl (isF T d)
theorem call_isR {T : String} (hT : IsT T) : CallR X (.builtin "isinstance") (fun xs H Q => ∃ B d v, xs = [v, .ty T] ∧ Rep X.K H B d v ∧ Q (.bl (isF T d)) H) := by
  intro pins s σ H xs us Q I r h
  obtain ⟨B, d, v, rfl, rv, q⟩ := h
  obtain ⟨u, w', rfl, r1, r2⟩ := vals2 r
  cases r2
  exact isinst_rep I rv r1 hT fun tk => ⟨.bl _, H, I.tok tk, rfl, q⟩
theorem pd_is {f : DE} {x : Str} {T : String} (hT : IsT T) (hb : bootBuiltins x = some (.type T)) (hx : Gl X x) (hmx : X.mg x = none) (hnx : x ≠ "__name__") (hdx : (x == ("__debug__" : Str)) = false) (hg : Gl X "isinstance") (hm : X.mg "isinstance" = none) (h : PD X e f)
    (he : starEach [e, .Name x p2] X.env = [(false, eval e X.env), (false, eval (.Name x p2) X.env)] := by rfl) (he2 : starEach [.Name x p2] X.env = [(false, eval (.Name x p2) X.env)] := by rfl) : PD X (.Call (.Name "isinstance" p) [e, .Name x p2] [] pos) (dIs T f) :=
  (pe_callB (call_isR hT) hg hm boot_isinstance (pa_cons h (pa_cons (pe_bltn (v := .ty T) hx hmx hb rfl hnx hdx) pa_nil he2) (by rw [he, he2])) (by decide) (by decide) (by rw [he, he2]) (by rw [he2]; rfl)).imp fun σ H Q ⟨B, δ, d, hB, S, q, k⟩ => by
    unfold dIs at q
    cases e1 : f δ with
    | none => rw [e1] at q; cases q
    | some d' =>
      rw [e1] at q
      cases q
      exact ⟨B, δ, d', hB, S, e1, fun v H1 s1 r1 => ⟨B, d', v, rfl, r1, k _ H1 s1 rfl⟩⟩
theorem pd_isBool {f : DE} (hx : Gl X "bool") (hmx : X.mg "bool" = none) (hg : Gl X "isinstance") (hm : X.mg "isinstance" = none) (h : PD X e f) (he : starEach [e, .Name "bool" p2] X.env = [(false, eval e X.env), (false, eval (.Name "bool" p2) X.env)] := by rfl) :
    PD X (.Call (.Name "isinstance" p) [e, .Name "bool" p2] [] pos) (dIs "bool" f) := pd_is .bool PyProof.Rows.Boot.«bool» hx hmx (by decide) (by decide) hg hm h he rfl
theorem pd_isInt {f : DE} (hx : Gl X "int") (hmx : X.mg "int" = none) (hg : Gl X "isinstance") (hm : X.mg "isinstance" = none) (h : PD X e f) (he : starEach [e, .Name "int" p2] X.env = [(false, eval e X.env), (false, eval (.Name "int" p2) X.env)] := by rfl) :
    PD X (.Call (.Name "isinstance" p) [e, .Name "int" p2] [] pos) (dIs "int" f) := pd_is .int PyProof.Rows.Boot.«int» hx hmx (by decide) (by decide) hg hm h he rfl
theorem pd_isList {f : DE} (hx : Gl X "list") (hmx : X.mg "list" = none) (hg : Gl X "isinstance") (hm : X.mg "isinstance" = none) (h : PD X e f) (he : starEach [e, .Name "list" p2] X.env = [(false, eval e X.env), (false, eval (.Name "list" p2) X.env)] := by rfl) :
    PD X (.Call (.Name "isinstance" p) [e, .Name "list" p2] [] pos) (dIs "list" f) := pd_is .list PyProof.Rows.Boot.«list» hx hmx (by decide) (by decide) hg hm h he rfl
theorem pd_isTup {f : DE} (hx : Gl X "tuple") (hmx : X.mg "tuple" = none) (hg : Gl X "isinstance") (hm : X.mg "isinstance" = none) (h : PD X e f) (he : starEach [e, .Name "tuple" p2] X.env = [(false, eval e X.env), (false, eval (.Name "tuple" p2) X.env)] := by rfl) :
    PD X (.Call (.Name "isinstance" p) [e, .Name "tuple" p2] [] pos) (dIs "tuple" f) := pd_is .tuple PyProof.Rows.Boot.«tuple» hx hmx (by decide) (by decide) hg hm h he rfl
end

/-! ### an owned list is changed -/
/-- what was lent by slot i is forgotten -/
def dropB (i : Nat) : Option SD → Option SD
  | some (.bo r d) => if r = i then none else some (.bo r d)
  | o => o
def dropBs (i : Nat) (δ : SS) : SS := δ.map (dropB i)
theorem dropBs_get {i j : Nat} {δ : SS} {x : SD} (h : (dropBs i δ)[j]? = some (some x)) : δ[j]? = some (some x) ∧ ∀ d, x ≠ .bo i d := by
  unfold dropBs at h
  rw [List.getElem?_map] at h
  cases e : δ[j]? with
  | none => rw [e] at h; cases h
  | some o =>
    rw [e] at h
    have h' : dropB i o = some x := Option.some.inj h
    unfold dropB at h'
    split at h'
    · rename_i r d
      split at h'
      · cases h'
      · rename_i hr
        cases h'
        exact ⟨rfl, fun d' z => by cases z; exact hr rfl⟩
    · rename_i hn
      subst h'
      exact ⟨rfl, fun d z => hn i d (by rw [z])⟩
section
variable {K : PySem.W.Frag} {H0 H : Hp} {B0 : Addr → Prop} {σ : St} {δ : SS} {R : Nat → List Addr}
/-- the list at a, of the slot i's tree, is rewritten: the tree behind it is told; what is new since Hold may come in -/
theorem RS.rewrite {Hold : Hp} {i : Nat} {d d' : D} {a : Addr} {o : HO} {v : V} {A' : List Addr} (h : RS K H0 B0 Hold σ δ R) (e : Same Hold H) (hi : δ[i]? = some (some (.ow d))) (hv : σ[i]? = some (some v)) (ha : a ∈ R i) (t : Tree K (upd H a o) d' v A') (nd : A'.Nodup) (sub : ∀ b ∈ A', b ∈ R i ∨ Hold b = none) :
    RS K H0 B0 (upd H a o) σ ((dropBs i δ).set i (some (.ow d'))) (setR R i A') ∧ Stp R Hold (setR R i A') (upd H a o) := by
  have hm := h.mono e
  obtain ⟨oa, ea, ma⟩ := hm.held i a ha
  have mH : Mut (H a) := by rw [ea]; exact ma
  have mem : ∀ r b, b ∈ setR R i A' r → b ∈ R r ∨ (r = i ∧ Hold b = none) := fun r b z => by
    by_cases hr : r = i
    · subst hr; rw [setR_same] at z; exact (sub b z).imp id fun q => ⟨rfl, q⟩
    · rw [setR_ne hr] at z; exact .inl z
  have kt : KeepI K H (upd H a o) := (Keep.upd (K := K) (B := fun x => x = a) rfl mH).i
  have nh : ∀ r b, b ∈ R r → Hold b = none → False := fun r b z q => by
    obtain ⟨u, q', _⟩ := h.held r b z
    rw [q] at q'; cases q'
  refine ⟨⟨fun b u q => ?_, h.inB, by simp [dropBs, h.len], fun r b z => ?_, fun r b z => ?_, fun r s b z z' => ?_, fun j d2 z => ?_, fun j r2 d2 z => ?_, fun j d2 z => ?_⟩, ⟨fun b u q n => ?_, fun r b z => ?_, fun b z => ?_⟩⟩
  · have ne : b ≠ a := fun z => by subst z; rw [h.new i b ha] at q; cases q
    rw [upd_ne ne]; exact hm.keep b u q
  · rcases mem r b z with z | ⟨_, z⟩
    · exact h.new r b z
    · exact h.keep.free z
  · by_cases hr : r = i
    · subst hr; rw [setR_same] at z; exact t.held d' b z
    · rw [setR_ne hr] at z
      have ne : b ≠ a := fun q => hr (h.disj r i b z (q ▸ ha))
      rw [upd_ne ne]; exact hm.held r b z
  · rcases mem r b z with z | ⟨z1, z2⟩ <;> rcases mem s b z' with z' | ⟨z1', z2'⟩
    · exact h.disj r s b z z'
    · exact (nh r b z z2').elim
    · exact (nh s b z' z2).elim
    · rw [z1, z1']
  · rcases get_set z with ⟨rfl, q, _⟩ | ⟨hj, q⟩
    · cases q
    · obtain ⟨q1, _⟩ := dropBs_get q
      obtain ⟨w, e1, r⟩ := h.sh j d2 q1
      have r2 := (Rep.wide (C := fun b => Hold b = none) (fun _ z => z) d2 r).mono e
      refine ⟨w, e1, Rep.anti ?_ d2 (Rep.keep (.upd (.inl (.inr ⟨i, ha⟩)) mH) d2 r2)⟩
      rintro b (z | ⟨r, z⟩)
      · exact .inl (.inl z)
      · rcases mem r b z with z | ⟨_, z⟩
        · exact .inl (.inr ⟨r, z⟩)
        · exact .inr z
  · rcases get_set z with ⟨rfl, q, _⟩ | ⟨hj, q⟩
    · cases q
    · obtain ⟨q1, q2⟩ := dropBs_get q
      have hr : i ≠ r2 := fun e => q2 d2 (by rw [e])
      obtain ⟨w, e1, r⟩ := h.bo j r2 d2 q1
      have r3 := (Rep.wide (C := fun b => Hold b = none) (fun _ z => z) d2 r).mono e
      refine ⟨w, e1, Rep.anti ?_ d2 (Rep.keep (.upd (.inl (.inr ⟨i, hr, ha⟩)) mH) d2 r3)⟩
      rintro b (z | ⟨s, hs, z⟩)
      · exact .inl (.inl z)
      · rcases mem s b z with z | ⟨_, z⟩
        · exact .inl (.inr ⟨s, hs, z⟩)
        · exact .inr z
  · rcases get_set z with ⟨rfl, q, _⟩ | ⟨hj, q⟩
    · cases q
      rw [setR_same]
      exact ⟨v, hv, t, nd⟩
    · obtain ⟨q1, _⟩ := dropBs_get q
      obtain ⟨w, e1, t', nd'⟩ := hm.ow j d2 q1
      rw [setR_ne hj]
      refine ⟨w, e1, Tree.keep kt d2 t' fun b hb u q => ?_, nd'⟩
      have ne : b ≠ a := fun z => by subst z; exact hj (h.disj j i b hb ha)
      rw [upd_ne ne]; exact q
  · have ne : b ≠ a := fun z => n i (z ▸ ha)
    rw [upd_ne ne]; exact e b u q
  · rcases mem r b z with z | ⟨_, z⟩
    · exact .inl ⟨r, z⟩
    · exact .inr z
  · by_cases hb : b = a
    · subst hb; rw [upd_same] at z; cases z
    · rw [upd_ne hb] at z; exact e.free z
/- items that cannot change, in a tree without lists -/
mutual
theorem Tree.flat : ∀ (d : D) {v : V} {A : List Addr}, d.imm = true → Tree K H d v A → A = []
  | .non, _, _, _, h => h.2
  | .bl _, _, _, _, h => h.2
  | .int _, _, _, _, h => h.2
  | .str _, _, _, _, h => h.2
  | .lst _, _, _, i, _ => by unfold D.imm at i; cases i
  | .dct _ _, _, _, i, _ => by unfold D.imm at i; cases i
  | .exc _, _, _, i, _ => by unfold D.imm at i; cases i
  | .obj _ _ _ _, _, _, i, _ => by unfold D.imm at i; cases i
  | .tup ds, _, _, i, h => by
    unfold D.imm at i
    unfold Tree at h
    obtain ⟨a, xs, _, _, r⟩ := h
    exact Trees.flat ds i r
  | .scr _, _, _, _, h => h.2
theorem Trees.flat : ∀ (ds : List D) {xs : List V} {A : List Addr}, imms ds = true → Trees K H ds xs A → A = []
  | [], _, _, _, h => h.2
  | d :: ds, _, _, i, h => by
    unfold imms at i
    rw [Bool.and_eq_true] at i
    unfold Trees at h
    obtain ⟨x, r, C, C', rfl, h1, h2, rfl⟩ := h
    rw [Trees.flat ds i.2 h2, List.append_nil]
    exact Tree.flat d i.1 h1
end
theorem Trees.append : ∀ {ds es : List D} {xs ys : List V} {A C : List Addr}, Trees K H ds xs A → Trees K H es ys C → Trees K H (ds ++ es) (xs ++ ys) (A ++ C)
  | [], _, _, _, _, _, h, h' => by obtain ⟨rfl, rfl⟩ := h; exact h'
  | d :: ds, es, _, ys, _, C, h, h' => by
    unfold Trees at h
    obtain ⟨y, r, A1, A2, rfl, h1, h2, rfl⟩ := h
    exact (show Trees K H (d :: (ds ++ es)) (y :: (r ++ ys)) (A1 ++ A2 ++ C) by unfold Trees; exact ⟨y, _, A1, A2 ++ C, rfl, h1, Trees.append h2 h', List.append_assoc _ _ _⟩)
theorem Trees.split : ∀ {ds : List D} {xs : List V} {A : List Addr} (k : Nat), Trees K H ds xs A → ∃ A1 A2, A = A1 ++ A2 ∧ Trees K H (ds.take k) (xs.take k) A1 ∧ Trees K H (ds.drop k) (xs.drop k) A2
  | ds, xs, A, 0, h => ⟨[], A, rfl, by rw [List.take_zero, List.take_zero]; exact ⟨rfl, rfl⟩, h⟩
  | [], _, _, k + 1, h => by
    obtain ⟨rfl, rfl⟩ := h
    exact ⟨[], [], rfl, ⟨rfl, rfl⟩, ⟨rfl, rfl⟩⟩
  | d :: ds, _, _, k + 1, h => by
    unfold Trees at h
    obtain ⟨y, r, A1, A2, rfl, h1, h2, rfl⟩ := h
    obtain ⟨C1, C2, rfl, h3, h4⟩ := Trees.split k h2
    refine ⟨A1 ++ C1, C2, (List.append_assoc _ _ _).symm, ?_, h4⟩
    rw [List.take_succ_cons, List.take_succ_cons]
    unfold Trees
    exact ⟨y, _, A1, C1, rfl, h1, h3, rfl⟩
theorem Trees.one {d : D} {x : V} {A : List Addr} (h : Tree K H d x A) : Trees K H [d] [x] A := by
  unfold Trees
  exact ⟨x, [], A, [], rfl, h, ⟨rfl, rfl⟩, (List.append_nil _).symm⟩
theorem Trees.length : ∀ {ds : List D} {xs : List V} {A : List Addr}, Trees K H ds xs A → ds.length = xs.length
  | [], _, _, h => by obtain ⟨rfl, _⟩ := h; rfl
  | d :: ds, _, _, h => by
    unfold Trees at h
    obtain ⟨x, r, _, _, rfl, _, h2, _⟩ := h
    simp [Trees.length h2]
theorem RS.top {i : Nat} {ds : List D} (h : RS K H0 B0 H σ δ R) (hi : δ[i]? = some (some (.ow (.lst ds)))) : ∃ a xs A, σ[i]? = some (some (.ref a)) ∧ H a = some (.lst xs) ∧ Trees K H ds xs A ∧ R i = a :: A ∧ (a :: A).Nodup := by
  obtain ⟨v, e, t, nd⟩ := h.ow i _ hi
  unfold Tree at t
  obtain ⟨a, xs, A, rfl, ha, ts, e2⟩ := t
  rw [e2] at nd
  exact ⟨a, xs, A, e, ha, ts, e2, nd⟩
/-- the owned list of slot i gets other items -/
theorem RS.put0 {Hold : Hp} {i : Nat} {ds ds' : List D} {a : Addr} {xs' : List V} {A A' : List Addr} (h : RS K H0 B0 Hold σ δ R) (e : Same Hold H) (hi : δ[i]? = some (some (.ow (.lst ds)))) (hv : σ[i]? = some (some (.ref a))) (hR : R i = a :: A) (nd : (a :: A).Nodup)
    (t : Trees K H ds' xs' A') (nd' : A'.Nodup) (sub : ∀ b ∈ A', b ∈ A ∨ Hold b = none) : RS K H0 B0 (upd H a (.lst xs')) σ ((dropBs i δ).set i (some (.ow (.lst ds')))) (setR R i (a :: A')) ∧ Stp R Hold (setR R i (a :: A')) (upd H a (.lst xs')) := by
  have ha : a ∈ R i := by rw [hR]; exact List.mem_cons_self
  obtain ⟨oa, ea, ma⟩ := h.held i a ha
  have nA : ∀ b ∈ A', b ≠ a := fun b hb z => by
    rcases sub b hb with q | q
    · exact (List.nodup_cons.mp nd).1 (z ▸ q)
    · rw [z, ea] at q; cases q
  have mH : Mut (H a) := by rw [e a oa ea]; exact ma
  refine h.rewrite e hi hv ha ?_ (List.nodup_cons.mpr ⟨fun z => nA a z rfl, nd'⟩) fun b hb => ?_
  · unfold Tree
    refine ⟨a, xs', A', rfl, upd_same, Trees.keep (Keep.upd (K := K) (B := fun x => x = a) rfl mH).i ds' t fun b hb o q => ?_, rfl⟩
    rw [upd_ne (nA b hb)]; exact q
  · rw [hR]
    rcases List.mem_cons.mp hb with z | z
    · rw [z]; exact .inl List.mem_cons_self
    · exact (sub b z).imp (List.mem_cons_of_mem _) id
end
end L2

/-! ### E8: methods and stores on owned lists; nested comprehensions; slices; arithmetic in short -/
namespace L2
open PySem PySem.Spec PyProof.Rows

instance {i j : Int} : Decidable (CDiv i j) := by unfold CDiv; infer_instance
instance {i j : Int} : Decidable (CPow i j) := by unfold CPow; infer_instance
instance {i j : Int} : Decidable (CMul i j) := by unfold CMul; infer_instance


def appF : List D → List D → Option (List D) := fun ds args => match args with
  | [d] => if ds.length < sizeLine then some (ds ++ [d]) else none
  | _ => none
/-- insert(k, y) -/
def insK (n : Nat) (i : Int) : Nat := if i < 0 then (i + (n : Int)).toNat else min i.toNat n
def insF : List D → List D → Option (List D) := fun ds args => match args with
  | [.int i, d] => if ds.length < sizeLine ∧ -(2 ^ 63) ≤ i ∧ i < 2 ^ 63 then some (ds.take (insK ds.length i) ++ d :: ds.drop (insK ds.length i)) else none
  | _ => none

section
variable {X : Cx} {H0 : Hp} {B0 : Addr → Prop} {fr : Bool} {RX : XR} {e e2 : Expr} {es : List Expr} {pos ap cp : Pos} {x name : Str} {px p2 : Pos} {bid : String} {r : V → List V → Hp → VK → Prop} {F : List D → List D → Option (List D)} {fl : List DE}
/-- x.m(..) at the owned list of slot i, with what cannot change; at its k-th item -/
def m0 (i : Nat) (F : List D → List D → Option (List D)) (fl : List DE) : SS → Option Out := fun δ => (dArgs fl (allV δ)).bind fun args => if imms args = true then (match δ[i]? with
  | some (some (.ow (.lst ds))) => (F ds args).map fun ds' => .nx ((dropBs i δ).set i (some (.ow (.lst ds'))))
  | _ => none) else none

/-- x[k].m(..): the k-th item of the owned list of slot i, a list whose items cannot change -/
def m1 (i : Nat) (fk : DE) (F : List D → List D → Option (List D)) (fl : List DE) : SS → Option Out := fun δ => (fk (allV δ)).bind fun dk => match dk with
  | .int k => (dArgs fl (allV δ)).bind fun args => if imms args = true then (match δ[i]? with
    | some (some (.ow (.lst ds))) => (ixN ds.length k).bind fun j => match ds[j]? with
      | some (.lst es) => if imms es = true then (F es args).bind fun es' => if imms es' = true then some (.nx ((dropBs i δ).set i (some (.ow (.lst (ds.set j (.lst es'))))))) else none else none
      | _ => none
    | _ => none) else none
  | _ => none

/-- x[k] = e, x[k][j] = e with what cannot change -/
def st0 (i : Nat) (fk fv : DE) : SS → Option Out := fun δ => (fv (allV δ)).bind fun d => if d.imm = true then (fk (allV δ)).bind fun dk => (match dk, δ[i]? with
  | .int k, some (some (.ow (.lst ds))) => (ixN ds.length k).map fun j => .nx ((dropBs i δ).set i (some (.ow (.lst (ds.set j d)))))
  | _, _ => none) else none
def st1 (i : Nat) (fk fj fv : DE) : SS → Option Out := fun δ => (fv (allV δ)).bind fun d => if d.imm = true then (fk (allV δ)).bind fun dk => (fj (allV δ)).bind fun dj => (match dk, dj, δ[i]? with
  | .int k, .int j, some (some (.ow (.lst ds))) => (ixN ds.length k).bind fun k' => (match ds[k']? with
    | some (.lst es) => if imms es = true then (ixN es.length j).map fun j' => .nx ((dropBs i δ).set i (some (.ow (.lst (ds.set k' (.lst (es.set j' d))))))) else none
    | _ => none)
  | _, _, _ => none) else none
end
end L2

/-! ### E9: stores; nested comprehensions; slices; defs that take over a list -/
namespace L2
open PySem PySem.Spec PyProof.Rows
theorem Trees.setI {K : PySem.W.Frag} {H : Hp} {d : D} {y : V} (ty : Tree K H d y []) : ∀ {ds : List D} {xs : List V} {A : List Addr} (j : Nat), Trees K H ds xs A → ∃ A', Trees K H (ds.set j d) (xs.set j y) A' ∧ A'.Sublist A
  | [], _, _, _, h => by
    obtain ⟨rfl, rfl⟩ := h
    exact ⟨[], ⟨rfl, rfl⟩, List.Sublist.refl _⟩
  | e :: ds, _, _, 0, h => by
    unfold Trees at h
    obtain ⟨x, r, A1, A2, rfl, h1, h2, rfl⟩ := h
    refine ⟨A2, ?_, List.sublist_append_right _ _⟩
    rw [List.set_cons_zero, List.set_cons_zero]
    unfold Trees
    exact ⟨y, r, [], A2, rfl, ty, h2, rfl⟩
  | e :: ds, _, _, k + 1, h => by
    unfold Trees at h
    obtain ⟨x, r, A1, A2, rfl, h1, h2, rfl⟩ := h
    obtain ⟨A', t, sb⟩ := Trees.setI ty k h2
    refine ⟨A1 ++ A', ?_, List.Sublist.append_left sb _⟩
    rw [List.set_cons_succ, List.set_cons_succ]
    unfold Trees
    exact ⟨x, _, A1, A', rfl, h1, t, rfl⟩
section
variable {X : Cx} {H0 : Hp} {B0 : Addr → Prop} {fr : Bool} {RX : XR} {e ke je : Expr} {pos : Pos} {x : Str} {px p2 p3 : Pos}
theorem s_st0 {i : Nat} {fk fv : DE} (hx : PE X (.Name x px) (tVar i)) (hk : PD X ke fk) (hv : PD X e fv)
    (ha : ∀ v, assign (.Subscript (.Name x px) ke p2) X.env v = (do
      let ov ← holding [v] (eval (.Name x px) X.env)
      let iv ← holding [v, ov] (eval ke X.env)
      standAt p2
      holding [v, ov, iv] (setItem ov iv v)
      release [v, ov, iv] []) := by intro _; rfl)
    (hs : swapsWithSole [.Subscript (.Name x px) ke p2] e pos.line X.env = pure false := by rfl) (hw : swappedStores [.Subscript (.Name x px) ke p2] e X.env = pure none := by rfl)
    (h1 : (assignEach [.Subscript (.Name x px) ke p2] X.env).map (·.2) = [assign (.Subscript (.Name x px) ke p2) X.env] := by rfl) :
    PS X (.Assign [.Subscript (.Name x px) ke p2] e pos) (tS X.K H0 B0 fr RX (st0 i fk fv)) :=
  PS.imp (ps_asg hv (pg_sub hx hk set_list ha) hs hw h1) fun D σ H ⟨δ, R, o, rs, q, kk⟩ => by
    unfold st0 at q
    cases e1 : fv (allV δ) with
    | none => rw [e1] at q; cases q
    | some d =>
    rw [e1] at q
    have q : (if d.imm = true then (fk (allV δ)).bind fun dk => (match dk, δ[i]? with
      | .int k, some (some (.ow (.lst ds))) => (ixN ds.length k).map fun j => Out.nx ((dropBs i δ).set i (some (.ow (.lst (ds.set j d)))))
      | _, _ => none) else none) = some o := q
    split at q
    case isFalse => cases q
    case isTrue hi =>
    cases e2 : fk (allV δ) with
    | none => rw [e2] at q; cases q
    | some dk =>
    rw [e2] at q
    simp only [Option.bind_some] at q
    split at q
    case h_2 => cases q
    case h_1 =>
    rename_i k ds ei
    cases ej : ixN ds.length k with
    | none => rw [ej] at q; cases q
    | some j =>
    rw [ej] at q
    cases q
    obtain ⟨a, xs, A, ev, ha', ts, eR, nd⟩ := rs.top ei
    refine ⟨noB, allV δ, d, .no, rs.all, e1, fun v H1 s1 r1 => ⟨.ref a, ev, noB, allV δ, .int k, .no, rs.all.mono s1, e2, fun v2 H2 s2 r2 => ?_⟩⟩
    cases (show v2 = V.int k from r2)
    refine ⟨a, xs, k, j, rfl, rfl, s2 _ _ (s1 _ _ ha'), by rw [← ts.length]; exact ej, ?_⟩
    obtain ⟨A', t', sb⟩ := Trees.setI ((r1.immTree d hi).mono s2) j (ts.mono (s1.trans s2))
    have P := rs.put0 (s1.trans s2) ei ev eR nd t' ((List.nodup_cons.mp nd).2.sublist sb) fun b hb => .inl (sb.subset hb)
    exact kk σ _ _ P.1 P.2
end

/-! ### slices of lists -/
section
variable {X : Cx} {e a b : Expr} {lo hi : Option Expr} {p2 pos : Pos}
def tO (K : PySem.W.Frag) (f : DS → Option (Option Int)) : TO := fun σ H Q => ∃ B δ o, InB B H ∧ RepS K H B σ δ ∧ f δ = some o ∧ ∀ H', Same H H' → Q o H'
abbrev POD (X : Cx) (e : Option Expr) (f : DS → Option (Option Int)) : Prop := PO X e (tO X.K f)
theorem PO.imp {eo : Option Expr} {t t' : TO} (h : PO X eo t) (w : ∀ σ H Q, t' σ H Q → t σ H Q) : PO X eo t' := fun pins s σ H Q I q => h pins s σ H Q I (w σ H Q q)
def dNoPart : DS → Option (Option Int) := fun _ => some none
def dPart (f : DE) : DS → Option (Option Int) := fun δ => match f δ with
  | some (.int i) => some (some i)
  | _ => none
theorem po_noneD : POD X none dNoPart := po_none.imp fun σ H Q ⟨B, δ, o, hB, S, q, k⟩ => by
  cases q
  exact k H (.refl H)
theorem po_someD {f : DE} (h : PD X e f) : POD X (some e) (dPart f) := (po_some h).imp fun σ H Q ⟨B, δ, o, hB, S, q, k⟩ => by
  unfold dPart at q
  split at q
  · rename_i i e1
    cases q
    exact ⟨B, δ, .int i, hB, S, e1, fun v H' s r => ⟨i, r, k H' s⟩⟩
  · cases q
def cutL (ds : List D) (lo hi : Option Int) : List D := (ds.drop (HT.sIx ds.length 0 lo)).take (HT.sIx ds.length ds.length hi - HT.sIx ds.length 0 lo)
def dCut (f : DE) (fl fh : DS → Option (Option Int)) : DS → Option (List D) := fun δ => match f δ with
  | some (.lst ds) => (fl δ).bind fun lo => (fh δ).map fun hi => cutL ds lo hi
  | some (.scr ns) => (fl δ).bind fun lo => (fh δ).map fun hi => cutL (ns.map .int) lo hi
  | _ => none
theorem pf_slice {f : DE} {fl fh : DS → Option (Option Int)} (he : PD X e f) (hl : POD X lo fl) (hh : POD X hi fh) : PF X (.Subscript e (.Slice lo hi none p2) pos) (dCut f fl fh) := (pe_slice sl_list he hl hh).imp fun σ H Q ⟨B, δ, ds', hB, S, q, k⟩ => by
  unfold dCut at q
  have core : ∀ (d : D) (ds : List D), f δ = some d → ((fl δ).bind fun lo => (fh δ).map fun hi => cutL ds lo hi) = some ds' → (∀ v H1, Rep X.K H1 B d v → ∃ a xs, v = .ref a ∧ (∀ H2, Same H1 H2 → SqL X.K H2 a xs) ∧ Reps X.K H1 B ds xs) →
      tSl (rSlL X.K) (tD X.K f) (tO X.K fl) (tO X.K fh) σ H Q := by
    intro d ds e1 q get
    cases e2 : fl δ with
    | none => rw [e2] at q; cases q
    | some l =>
    cases e3 : fh δ with
    | none => rw [e2, e3] at q; cases q
    | some u =>
    rw [e2, e3] at q
    cases q
    refine ⟨B, δ, _, hB, S, e1, fun v H1 s1 r1 => ⟨B, δ, l, hB.mono s1, S.mono s1, e2, fun H2 s2 => ⟨B, δ, u, (hB.mono s1).mono s2, (S.mono s1).mono s2, e3, fun H3 s3 => ?_⟩⟩⟩
    obtain ⟨a, xs, rfl, hq, rs⟩ := get v H1 r1
    refine ⟨a, xs, rfl, hq H3 (s2.trans s3), fun p hp => ?_⟩
    have sa := same_upd (o := .lst (cutV xs l u)) hp
    refine k p _ _ (((s1.trans s2).trans s3).trans sa) ((s1.trans (s2.trans s3)).free hp) upd_same ?_
    unfold cutL cutV
    rw [rs.length]
    exact ((rs.drop _).take _).mono ((s2.trans s3).trans sa)
  split at q
  case h_3 => cases q
  case h_1 ds e1 =>
    refine core _ ds e1 q fun v H1 r1 => ?_
    unfold Rep at r1
    obtain ⟨a, xs, rfl, _, hq, rs⟩ := r1
    exact ⟨a, xs, rfl, fun H2 s2 => SqL.of (s2 _ _ hq), rs⟩
  case h_2 ns e1 =>
    refine core _ (ns.map .int) e1 q fun v H1 r1 => ?_
    unfold Rep at r1
    obtain ⟨a, rfl, hq⟩ := r1
    exact ⟨a, _, rfl, fun H2 s2 => (s2.sf hq).sq, reps_ints ns⟩
end

/-! ### [elt for x in iter if c], each item all new -/
section
variable {X : Cx} {pos : Pos} {x : Str} {iter elt : Expr} {N' : List Str} {sc : Scope} {ifs : List Expr} {n : Nat} {px : Pos} {fi : DS → Option (List D)} {fc : DS → Option Bool} {fe : DE}
end
end L2

/-! ### E10: arithmetic in short; a def that takes over its first argument; the law itself -/
namespace L2
open PySem PySem.Spec PyProof.Rows
section
variable {X : Cx} {a b : Expr} {pos : Pos} {f g : DE}
def addI : D → D → Option D := iop fun i j => some (.int (i + j))
def subI : D → D → Option D := iop fun i j => some (.int (i - j))
def divI : D → D → Option D := iop fun i j => if CDiv i j then some (.int (i / j)) else none
def modI : D → D → Option D := iop fun i j => if 0 < j then some (.int (i % j)) else none
def powI : D → D → Option D := iop fun i j => if CPow i j then some (.int (i ^ j.toNat)) else none
def ltI : D → D → Option D := iop fun i j => some (.bl (decide (i < j)))
def leI : D → D → Option D := iop fun i j => some (.bl (decide (i ≤ j)))
def gtI : D → D → Option D := iop fun i j => some (.bl (decide (j < i)))
def geI : D → D → Option D := iop fun i j => some (.bl (decide (j ≤ i)))
theorem pd_add (ha : PD X a f) (hb : PD X b g) : PD X (.BinOp a .Add b pos) (d2 addI f g) := pd_op op_add o2_int0 ha hb
theorem pd_sub (ha : PD X a f) (hb : PD X b g) : PD X (.BinOp a .Sub b pos) (d2 subI f g) := pd_op op_sub o2_int0 ha hb
theorem pd_div (ha : PD X a f) (hb : PD X b g) : PD X (.BinOp a .FloorDiv b pos) (d2 divI f g) := pd_op op_fdiv o2_int ha hb
theorem pd_mod (ha : PD X a f) (hb : PD X b g) : PD X (.BinOp a .Mod b pos) (d2 modI f g) := pd_op op_mod o2_int ha hb
theorem pd_pow (ha : PD X a f) (hb : PD X b g) : PD X (.BinOp a .Pow b pos) (d2 powI f g) := pd_op op_pow o2_int ha hb
theorem pd_eq (hu : X.A.units + 64 < cLine) (ha : PD X a f) (hb : PD X b g) : PD X (.Compare a [.Eq] [b] pos) (d2 eqD f g) := pd_cmp (op_eqD hu) o2_eq ha hb (nomark _)
theorem pt_lt (ha : PD X a f) (hb : PD X b g) : PTD X (.Compare a [.Lt] [b] pos) (dTest (d2 ltI f g)) := pt_cmpD op_lt o2_bool0 ha hb (nomark _)
theorem pt_gt (ha : PD X a f) (hb : PD X b g) : PTD X (.Compare a [.Gt] [b] pos) (dTest (d2 gtI f g)) := pt_cmpD op_gt o2_bool0 ha hb (nomark _)
theorem pt_ge (ha : PD X a f) (hb : PD X b g) : PTD X (.Compare a [.GtE] [b] pos) (dTest (d2 geI f g)) := pt_cmpD op_ge o2_bool0 ha hb (nomark _)
theorem pt_eq (hu : X.A.units + 64 < cLine) (ha : PD X a f) (hb : PD X b g) : PTD X (.Compare a [.Eq] [b] pos) (dTest (d2 eqD f g)) := pt_cmpD (op_eqD hu) o2_eq ha hb (nomark _)
theorem pt_ne (hu : X.A.units + 64 < cLine) (ha : PD X a f) (hb : PD X b g) : PTD X (.Compare a [.NotEq] [b] pos) (dTest (d2 neD f g)) := pt_cmpD (op_neD hu) o2_ne ha hb (nomark _)
theorem pt_nin (hu : X.A.units + 64 < cLine) (ha : PD X a f) (hb : PD X b g) (hm : behindInMarks .NotIn b = false := by rfl) : PTD X (.Compare a [.NotIn] [b] pos) (dTest (d2 ninD f g)) := pt_cmpD (op_ninD hu) o2_nin ha hb hm
end

/-! ### a def that takes over a list -/
def hideA (H : Hp) (A : List Addr) : Hp := fun a => if a ∈ A then none else H a
theorem hideA_in {H : Hp} {A : List Addr} {a : Addr} (h : a ∈ A) : hideA H A a = none := if_pos h
theorem hideA_out {H : Hp} {A : List Addr} {a : Addr} (h : a ∉ A) : hideA H A a = H a := if_neg h
theorem hideA_same {H : Hp} {A : List Addr} : Same (hideA H A) H := fun a o e => by
  by_cases h : a ∈ A
  · rw [hideA_in h] at e; cases e
  · rw [hideA_out h] at e; exact e
theorem rs_startM {K : PySem.W.Frag} {H : Hp} {d0 : D} {v : V} {A : List Addr} {ds : List D} {vs : List V} {N : List Str} {nl : Nat} (t : Tree K H d0 v A) (nd : A.Nodup) (r : Reps K H (fun a => a ∈ A) ds vs) (hN : N.length = ds.length + 1 + nl) :
    RS K (hideA H A) noB H (start N (v :: vs)) (some (.ow d0) :: ds.map (fun d => some (.sh d)) ++ List.replicate nl none) (fun r => if r = 0 then A else []) := by
  have hl := r.length
  have get : ∀ {i : Nat} {x : SD}, (some (SD.ow d0) :: ds.map (fun d => some (SD.sh d)) ++ List.replicate nl none)[i]? = some (some x) → (i = 0 ∧ x = .ow d0) ∨ ∃ j d, i = j + 1 ∧ ds[j]? = some d ∧ x = .sh d := fun {i x} e => by
    cases i with
    | zero => simp at e; exact .inl ⟨rfl, e.symm⟩
    | succ j =>
      have e' : (ds.map (fun d => some (SD.sh d)) ++ List.replicate nl none)[j]? = some (some x) := by simpa using e
      by_cases hi : j < ds.length
      · rw [List.getElem?_append_left (by simpa using hi), List.getElem?_map, List.getElem?_eq_getElem hi] at e'
        cases e'
        exact .inr ⟨j, ds[j], rfl, List.getElem?_eq_getElem hi, rfl⟩
      · rw [List.getElem?_append_right (by simpa using hi), List.getElem?_replicate] at e'
        split at e' <;> cases e'
  have mem : ∀ r a, a ∈ (if r = 0 then A else []) → r = 0 ∧ a ∈ A := fun r a z => by
    split at z
    · exact ⟨by assumption, z⟩
    · cases z
  refine ⟨hideA_same, (fun _ z => z.elim), ?_, fun r a z => hideA_in (mem r a z).2, fun r a z => t.held d0 a (mem r a z).2, fun r s a z z' => by rw [(mem r a z).1, (mem s a z').1], fun i d e => ?_, fun i r d e => ?_, fun i d e => ?_⟩
  · unfold start
    simp
    omega
  · rcases get e with ⟨_, q⟩ | ⟨j, d', rfl, e1, q⟩
    · cases q
    · cases q
      obtain ⟨u, e3, rv⟩ := r.get e1
      refine ⟨u, ?_, rv.anti fun a z => ?_⟩
      · unfold start
        have hi : j < vs.length := (List.getElem?_eq_some_iff.mp e3).1
        rw [List.getElem?_append_left (by simp; omega), List.getElem?_map]
        simp [e3]
      · rcases z with z | ⟨r, z⟩
        · exact z.elim
        · exact (mem r a z).2
  · rcases get e with ⟨_, q⟩ | ⟨j, d', rfl, e1, q⟩ <;> cases q
  · rcases get e with ⟨rfl, q⟩ | ⟨j, d', rfl, e1, q⟩
    · cases q
      refine ⟨v, ?_, t, nd⟩
      unfold start
      simp
    · cases q
section
variable {P : Program} {w : World} {K : PySem.W.Frag} {mg : Str → Option Value} {base : Heap}
end
/-! x = f(x, ..): the owned list of slot i goes and comes -/
section
variable {X : Cx} {H0 : Hp} {B0 : Addr → Prop} {fr : Bool} {RX : XR} {e : Expr} {es : List Expr} {pos p px px2 cp : Pos} {x fn : Str} {k : Nat} {F : List D → Option D} {fl : List DE}
def asgM (i : Nat) (F : List D → Option D) (fl : List DE) : SS → Option Out := fun δ => (dArgs fl (allV δ)).bind fun args => if imms args = true then (match δ[i]? with
  | some (some (.ow d0)) => (F (d0 :: args)).map fun d => .nx ((dropBs i δ).set i (some (.ow d)))
  | _ => none) else none
theorem RS.moved {K : PySem.W.Frag} {Hp0 H1 H2 : Hp} {σ : St} {δ : SS} {R : Nat → List Addr} {i : Nat} {d0 d : D} {v : V} {A : List Addr} (h : RS K H0 B0 Hp0 σ δ R) (e : Same Hp0 H1) (hi : δ[i]? = some (some (.ow d0)))
    (s : Same (hideA H1 (R i)) H2) (t : Tree K H2 d v A) (nd : A.Nodup) (fr : ∀ a ∈ A, a ∈ R i ∨ H1 a = none) (th : ∀ a, H2 a = none → H1 a = none) : RS K H0 B0 H2 (σ.set i (some v)) ((dropBs i δ).set i (some (.ow d))) (setR R i A) ∧ Stp R Hp0 (setR R i A) H2 := by
  have hm := h.mono e
  have keepO : ∀ a o, H1 a = some o → a ∉ R i → H2 a = some o := fun a o q n => s a o (by rw [hideA_out n]; exact q)
  have fr' : ∀ a ∈ A, a ∈ R i ∨ Hp0 a = none := fun a ha => (fr a ha).imp id fun z => e.free z
  have mem : ∀ r b, b ∈ setR R i A r → b ∈ R r ∨ (r = i ∧ Hp0 b = none) := fun r b z => by
    by_cases hr : r = i
    · subst hr; rw [setR_same] at z; exact (fr' b z).imp id fun q => ⟨rfl, q⟩
    · rw [setR_ne hr] at z; exact .inl z
  have nh : ∀ r b, b ∈ R r → Hp0 b = none → False := fun r b z q => by
    obtain ⟨u, q', _⟩ := h.held r b z
    rw [q] at q'; cases q'
  have nt : ∀ a u, H1 a = some u → ¬ Mut (some u) → a ∉ R i := fun a u q nm z => by
    obtain ⟨o, q', m⟩ := hm.held i a z
    rw [q] at q'; cases q'
    exact nm m
  have kp : Keep K (fun a => a ∈ R i) H1 H2 := by
    refine ⟨fun a xs n q => keepO a _ q n, fun a xs q => ?_, fun a xs q => ?_, fun a kvs n q => keepO a _ q n, fun a φ n q => keepO a _ q n, fun a _ _ _ n q => keepO a _ q n⟩
    · rcases q with (q | ⟨o, q⟩) | q
      · exact .inl (.inl (keepO a _ q (nt a _ q fun z => z)))
      · exact .inl (.inr ⟨o, keepO a _ q (nt a _ q fun z => z)⟩)
      · exact .inr q
    · rcases q with ⟨o, q⟩ | q
      · exact .inl ⟨o, keepO a _ q (nt a _ q fun z => z)⟩
      · exact .inr q
  have up : ∀ {j : Nat} {w : V}, j ≠ i → σ[j]? = some (some w) → (σ.set i (some v))[j]? = some (some w) := fun hj e => by rw [List.getElem?_set_ne (Ne.symm hj)]; exact e
  refine ⟨⟨fun b u q => ?_, h.inB, by simp [dropBs, h.len], fun r b z => ?_, fun r b z => ?_, fun r s b z z' => ?_, fun j d2 z => ?_, fun j r2 d2 z => ?_, fun j d2 z => ?_⟩, ⟨fun b u q n => keepO b u (e b u q) (n i), fun r b z => ?_, fun b z => ?_⟩⟩
  · exact keepO b u (hm.keep b u q) fun z => by rw [h.new i b z] at q; cases q
  · rcases mem r b z with z | ⟨_, z⟩
    · exact h.new r b z
    · exact h.keep.free z
  · by_cases hr : r = i
    · subst hr; rw [setR_same] at z; exact t.held d b z
    · rw [setR_ne hr] at z
      obtain ⟨u, q, m⟩ := hm.held r b z
      exact ⟨u, keepO b u q fun z' => hr (h.disj r i b z z'), m⟩
  · rcases mem r b z with z | ⟨z1, z2⟩ <;> rcases mem s b z' with z' | ⟨z1', z2'⟩
    · exact h.disj r s b z z'
    · exact (nh r b z z2').elim
    · exact (nh s b z' z2).elim
    · rw [z1, z1']
  · rcases get_set z with ⟨rfl, q, _⟩ | ⟨hj, q⟩
    · cases q
    · obtain ⟨q1, _⟩ := dropBs_get q
      obtain ⟨w, e1, r⟩ := h.sh j d2 q1
      have r2 := (Rep.wide (C := fun b => Hp0 b = none) (fun _ z => z) d2 r).mono e
      refine ⟨w, up hj e1, Rep.anti ?_ d2 (Rep.keep (kp.anti fun a z => .inl (.inr ⟨i, z⟩)) d2 r2)⟩
      rintro b (z | ⟨r, z⟩)
      · exact .inl (.inl z)
      · rcases mem r b z with z | ⟨_, z⟩
        · exact .inl (.inr ⟨r, z⟩)
        · exact .inr z
  · rcases get_set z with ⟨rfl, q, _⟩ | ⟨hj, q⟩
    · cases q
    · obtain ⟨q1, q2⟩ := dropBs_get q
      have hr : i ≠ r2 := fun e => q2 d2 (by rw [e])
      obtain ⟨w, e1, r⟩ := h.bo j r2 d2 q1
      have r3 := (Rep.wide (C := fun b => Hp0 b = none) (fun _ z => z) d2 r).mono e
      refine ⟨w, up hj e1, Rep.anti ?_ d2 (Rep.keep (kp.anti fun a z => .inl (.inr ⟨i, hr, z⟩)) d2 r3)⟩
      rintro b (z | ⟨s, hs, z⟩)
      · exact .inl (.inl z)
      · rcases mem s b z with z | ⟨_, z⟩
        · exact .inl (.inr ⟨s, hs, z⟩)
        · exact .inr z
  · rcases get_set z with ⟨rfl, q, hl⟩ | ⟨hj, q⟩
    · cases q
      rw [setR_same]
      refine ⟨v, ?_, t, nd⟩
      have hl' : j < σ.length := by
        rw [← h.len]
        simpa [dropBs] using hl
      rw [List.getElem?_set]
      simp [hl']
    · obtain ⟨q1, _⟩ := dropBs_get q
      obtain ⟨w, e1, t', nd'⟩ := hm.ow j d2 q1
      rw [setR_ne hj]
      exact ⟨w, up hj e1, Tree.keep kp.i d2 t' fun b hb u q => keepO b u q fun z => hj (h.disj j i b hb z), nd'⟩
  · rcases mem r b z with z | ⟨_, z⟩
    · exact .inl ⟨r, z⟩
    · exact .inr z
  · exact e.free (th b z)
end

/-! ### the law: a list of at most 63 ints is handed in, True comes out -/
def spLaw (K : PySem.W.Frag) (F : List D → Option D) : Sp := fun vs H Q _ => ∃ (a : Addr) (ns : List Int), vs = [.ref a] ∧ SqF K H a (ns.map V.int) ∧ F [.scr ns] = some (.bl true) ∧ ∀ H', Q (.bl true) H'
theorem only_sqF {K : PySem.W.Frag} {H : Hp} {a : Addr} {xs : List V} (hO : Only H) (h : SqL K H a xs) : SqF K H a xs := by
  rcases h with (h | h) | h
  · rcases hO a with z | ⟨o, ys, z⟩ <;> (rw [h] at z; cases z)
  · exact .inl h
  · exact .inr h
/-- the law's def, by its promise as a def -/
theorem law_of {P : Program} {w : World} {K : PySem.W.Frag} {mg : Str → Option Value} {base : Heap} {k : Nat} {f : Addr} {fd : FuncData} {ps : List Str} {F : List D → Option D} (h : FnOk P w K mg base CX0 k f fd ps (spN K F)) : FnOk P w K mg base CX0 k f fd ps (spLaw K F) := by
  refine h.imp fun vs H Q E z => ?_
  obtain ⟨a, ns, rfl, hq, e, q⟩ := z
  refine ⟨[.scr ns], .bl true, .cons ?_ .nil, e, fun v H' A s t nd fr => ?_⟩
  · unfold Rep
    exact ⟨a, rfl, hq⟩
  · cases (show v = V.bl true ∧ _ from t).1
    exact q H'
end L2

/-! ### E11: a new list goes into an owned one -/
namespace L2
open PySem PySem.Spec PyProof.Rows
section
variable {X : Cx} {H0 : Hp} {B0 : Addr → Prop} {fr : Bool} {RX : XR} {e e2 : Expr} {pos ap cp : Pos} {x : Str} {px : Pos} {f g : DE}
def app0N (i : Nat) (f : DE) : SS → Option Out := fun δ => (f (allV δ)).bind fun d => (match δ[i]? with
  | some (some (.ow (.lst ds))) => (appF ds [d]).map fun ds' => .nx ((dropBs i δ).set i (some (.ow (.lst ds'))))
  | _ => none)
def ins0N (i : Nat) (f g : DE) : SS → Option Out := fun δ => (f (allV δ)).bind fun k => if k.imm = true then (g (allV δ)).bind fun d => (match δ[i]? with
  | some (some (.ow (.lst ds))) => (insF ds [k, d]).map fun ds' => .nx ((dropBs i δ).set i (some (.ow (.lst ds'))))
  | _ => none) else none
end
end L2

/-! ### E12: tuple.index -/
namespace L2
open PySem PySem.Spec PyProof.Rows
open PySem.MeetsSeq PySem.MeetsSeq2 PySem.MeetsSeq3 PySem.SeqRoads2 PySem.SeqAt
open PySem.AutoSeq1 (wpAny_loadPart')
theorem wpAny_forIn_rng {M : Model} {A : Around} {E : Value → Shared → Prop} {s : Shared} {β : Type} (f : Nat → β → Sem (ForInStep β)) (I : List Nat → β → Shared → Prop) (Q : β → Shared → Prop)
    (turn : ∀ x rest b s, I (x :: rest) b s → wpAny M A (f x b) (fun r s' => match r with | .yield b' => I rest b' s' | .done b' => Q b' s') E s)
    (fin : ∀ b s, I [] b s → Q b s) (lo hi : Nat) (b : β) (h : I (List.range' lo (hi - lo)) b s) : wpAny M A (forIn ([lo:hi] : Std.Legacy.Range) b f) Q E s := by
  rw [Std.Legacy.Range.forIn_eq_forIn_range']
  have hsz : ([lo:hi] : Std.Legacy.Range).size = hi - lo := by simp [Std.Legacy.Range.size]
  show wpAny M A (forIn (List.range' lo ([lo:hi] : Std.Legacy.Range).size 1) b f) Q E s
  rw [hsz]
  exact wpAny_forIn_list f I Q turn fin _ b h
theorem tuple_indexAt (l : Addr) (items : Array Value) (n : Nat) (dd : Option Addr) (sl : Array (Option Value)) (x : Value) (e : Value → Bool) (j : Nat) (hj : j < items.size) (hit : e items[j] = true) (hno : ∀ m (hm : m < items.size), m < j → e items[m] = false) :
    Meets (Builtin.«tuple.index» ⟨[.ref l, x], []⟩)
      (fun A R s => s.heap.get? l = some { cls := .type "tuple", dict := dd, data := .seq items n, slots := sl } ∧ (∀ y, y ∈ items → EqAt A.in1 s y x (e y)) ∧ R (.ok (.ret (.int j s.toks))) { s with toks := s.toks + 1 }) :=
  .of_wp fun prog w A R s h => by
    obtain ⟨hp, g, d, tk, os⟩ := s; obtain ⟨hl, he, h⟩ := h
    wp_walk using wpAny_loadPart' hl, wpAny_forIn_rng _ (fun rest b s' => b.1 = none ∧ s' = ⟨hp, g, d, tk, os⟩ ∧ ∃ i, i ≤ j ∧ rest = List.range' i (items.size - i)) _
    case turn =>
      rintro y rest b s' ⟨hb, rfl, i, hi, hr⟩
      have e1 : items.size - i = (items.size - (i + 1)) + 1 := by omega
      rw [e1, List.range'_succ] at hr
      have h1 : i = y := (List.cons.inj hr).1.symm
      have h2 := (List.cons.inj hr).2
      subst h1
      have hlt : i < items.size := by omega
      rw [Array.getElem?_eq_getElem hlt]
      refine wpAny_bind (he _ (Array.getElem_mem hlt) prog w _ _ ?_)
      by_cases hij : i = j
      · subst hij
        rw [hit]
        wp_walk
        exact ⟨_, rfl, h⟩
      · rw [hno i hlt (by omega)]
        wp_walk
        exact ⟨rfl, rfl, i + 1, by omega, h2⟩
    case fin =>
      rintro ⟨b1, b2⟩ s' ⟨hb, rfl, i, hi, hr⟩
      have : (List.range' i (items.size - i)).length = 0 := by rw [← hr]; rfl
      rw [List.length_range'] at this
      omega
    case h =>
      exact ⟨rfl, rfl, 0, by omega, by simp⟩
section
variable {X : Cx}
theorem Inv.tupleO {pins : List (Addr × Obj)} {σ : St} {H : Hp} {s : Shared} {a : Addr} {xs : List V} (I : Inv X pins σ H s) (h : SqT X.K H a xs) : ∃ (its : List Value) (ob : Obj) (n : Nat), Vals xs its ∧ s.heap.get? a = some ob ∧ ob.cls = .type "tuple" ∧ ob.dict = none ∧ ob.data = .seq its.toArray n ∧ xs.length ≤ sizeLine := by
  rcases h with h | ⟨o, its, n, hk, hc, hs, hz, r⟩
  · obtain ⟨z, its, r, ob, e, c, n, hd⟩ := h.ok I.hok
    exact ⟨its, ob, n, r, e, c.1, c.2, hd, z⟩
  · refine ⟨its.toList, o, n, r, I.kIn a o hk, hc.1, hc.2, by simpa using hs, ?_⟩
    have e := r.length
    simp only [Array.length_toList] at e
    omega
def tTM (K : PySem.W.Frag) (r : V → List V → Hp → VK → Prop) (to : TE) (t : TA) : TE := fun σ H Q => to σ H fun x H1 => (∃ a xs, x = .ref a ∧ SqT K H1 a xs) ∧ t σ H1 fun xs H2 => r x xs H2 Q
variable {o e : Expr} {es : List Expr} {to : TE} {t : TA} {name : Str} {apos cpos : Pos} {id : String} {r : V → List V → Hp → VK → Prop}
theorem pe_tm (slot : Slot "tuple" name id) (hty : typeOf (.builtin id) = pure (.type "method_descriptor")) (hm : MtR X id r) (ho : PE X o to) (ha : PA X (e :: es) t)
    (hbase : attributeBase o name X.env (eval o X.env) = eval o X.env := by rfl)
    (hfew : ((backTo cpos (starEach (e :: es) X.env)).all (fun x => !x.1) && (backToKw cpos (keywordEach [] X.env)).all (fun x => x.1.isSome)
      && decide ((e :: es).length + ([] : List Keyword).length + (if ([] : List Keyword).isEmpty then 0 else 1) < 30)) = true := by rfl)
    (hline : (apos.endLine == cpos.line) = true := by rfl) (hs : starEach (e :: es) X.env = (false, eval e X.env) :: starEach es X.env := by rfl) (hplain : (backTo cpos (starEach es X.env)).any (·.1) = false := by rfl) :
    PE X (.Call (.Attribute o name apos) (e :: es) [] cpos) (tTM X.K r to t) := by
  intro pins s σ H Q I h
  refine wpAny_Call_method_late hbase hfew hline rfl (thn (ho pins s σ H _ I h) fun v s1 ⟨x, H1, I1, r1, ⟨a, ys, ex, ty⟩, q1⟩ => ?_)
  subst ex
  cases r1
  obtain ⟨its, ob, n, _, e1, c1, d1, _⟩ := I1.tupleO ty
  refine ⟨"tuple", id, PySem.F.plainAttrs_tuple, slot, hty, ⟨ob, e1, c1⟩, fun a e => (by cases e; exact ⟨ob, e1, d1⟩), ?_⟩
  have hA := ha cpos pins s1 σ H1 _ I1 q1
  rw [hs] at hA ⊢
  refine Calls.callWith_builtin (by show (false || (backTo cpos (starEach es X.env)).any (·.1)) = false; rw [hplain] <;> rfl) (Calls.evalArgs_plain ?_)
  exact thn hA fun us s2 ⟨vs, H2, I2, r2, q2⟩ => hm pins s2 σ H2 (.ref a) vs (.ref a) us Q I2 rfl r2 q2
/-- the place of an int in a tuple of ints -/
def rTIx (K : PySem.W.Frag) : V → List V → Hp → VK → Prop := fun x vs H Q => ∃ (a : Addr) (ns : List Int) (i : Int) (j : Nat), x = .ref a ∧ vs = [.int i] ∧ SqT K H a (ns.map V.int) ∧ ns.findIdx? (fun n => n == i) = some j ∧ Q (.int (j : Int)) H
theorem valsI : ∀ {ns : List Int} {its : List Value}, Vals (ns.map V.int) its → ∀ (k : Nat) (h : k < its.length), ∃ t, ∃ h2 : k < ns.length, its[k] = .int ns[k] t
  | [], _, .nil, _, h => by simp at h
  | n :: ns, _, .cons r t, k, h => by
    obtain ⟨u, rfl⟩ := r
    cases k with
    | zero => exact ⟨u, by simp, rfl⟩
    | succ k =>
      obtain ⟨w, h2, e⟩ := valsI t k (by simpa using h)
      exact ⟨w, by simpa using h2, by simpa using e⟩
def isI (i : Int) : Value → Bool
  | .int k _ => k == i
  | _ => false
theorem mt_tindex : MtR X "tuple.index" (rTIx X.K) := by
  intro pins s σ H x vs v us Q I rx rv h
  obtain ⟨a, ns, i, j, rfl, rfl, hq, hj, q⟩ := h
  cases rx
  obtain ⟨u, rfl, ru⟩ := rv.one
  obtain ⟨ut, rfl⟩ := ru
  obtain ⟨its, ⟨cls, dct, dat, sl⟩, n, r, e, c, d, hd, _⟩ := I.tupleO hq
  subst c; subst hd
  obtain ⟨hjl, hji, hjm⟩ := List.findIdx?_eq_some_iff_getElem.mp hj
  have hl : ns.length = its.length := by have := r.length; simpa using this
  have hj2 : j < its.length := by omega
  refine call_meets F.slot_tuple_index ⟨_, e, rfl⟩ F.entry_tuple_index (F.args_tuple_index_2 _ _) (tuple_indexAt a its.toArray n dct sl (.int i ut) (isI i) j (by simpa using hj2) ?_ ?_) ⟨e, ?_, ?_⟩
  · obtain ⟨t, h2, e2⟩ := valsI r j hj2
    simp [e2, isI]
    simpa using hji
  · intro m hm hmj
    obtain ⟨t, h2, e2⟩ := valsI r m (by omega)
    have := hjm m hmj
    simp [e2, isI]
    simpa using this
  · intro y hy
    obtain ⟨k, hk, rfl⟩ := List.getElem_of_mem (show y ∈ its by simpa using hy)
    obtain ⟨t, h2, e2⟩ := valsI r k hk
    rw [e2]
    exact SeqAt.EqAt.int_int _ _ _ _
  · exact ⟨.int (j : Int), H, I.tok _, ⟨_, rfl⟩, q⟩
theorem ints_some : ∀ {ds : List D} {ns : List Int}, ints' ds = some ns → ds = ns.map D.int
  | [], ns, h => by cases h; rfl
  | .int i :: r, ns, h => by
    unfold ints' at h
    cases e : ints' r with
    | none => rw [e] at h; cases h
    | some ms => rw [e] at h; cases h; rw [List.map_cons, ints_some e]
  | .non :: _, _, h => by cases h
  | .bl _ :: _, _, h => by cases h
  | .str _ :: _, _, h => by cases h
  | .lst _ :: _, _, h => by cases h
  | .tup _ :: _, _, h => by cases h
  | .scr _ :: _, _, h => by cases h
  | .dct _ _ :: _, _, h => by cases h
  | .exc _ :: _, _, h => by cases h
  | .obj _ _ _ _ :: _, _, h => by cases h
theorem reps_int {K : PySem.W.Frag} {H : Hp} {B : Addr → Prop} : ∀ {ns : List Int} {xs : List V}, Reps K H B (ns.map D.int) xs → xs = ns.map V.int
  | [], _, h => by unfold Reps at h; exact h
  | n :: ns, _, h => by
    rw [List.map_cons] at h
    unfold Reps at h
    obtain ⟨x, r, rfl, h1, h2⟩ := h
    unfold Rep at h1
    rw [h1, reps_int h2]
    rfl
def tixF : D → D → Option D
  | .tup ds, .int i => (ints' ds).bind fun ns => (ns.findIdx? (fun n => n == i)).map fun j => .int (j : Int)
  | _, _ => none
theorem pd_tindex {f g : DE} (ho : PD X o f) (he : PD X e g) (hbase : attributeBase o "index" X.env (eval o X.env) = eval o X.env := by rfl)
    (hfew : ((backTo cpos (starEach [e] X.env)).all (fun x => !x.1) && (backToKw cpos (keywordEach [] X.env)).all (fun x => x.1.isSome) && decide ([e].length + ([] : List Keyword).length + (if ([] : List Keyword).isEmpty then 0 else 1) < 30)) = true := by rfl)
    (hline : (apos.endLine == cpos.line) = true := by rfl) (hs : starEach [e] X.env = (false, eval e X.env) :: starEach [] X.env := by rfl) :
    PD X (.Call (.Attribute o "index" apos) [e] [] cpos) (d2 tixF f g) :=
  (pe_tm PySem.F.slot_tuple_index PySem.F.type_tuple_index mt_tindex ho (pa_cons he pa_nil hs) hbase hfew hline hs rfl).imp fun σ H Q ⟨B, δ, d, hB, S, q, k⟩ => by
    obtain ⟨x, y, e1, e2, e3⟩ := d2_some q
    unfold tixF at e3
    split at e3
    case h_2 => cases e3
    case h_1 ds i =>
    cases e4 : ints' ds with
    | none => rw [e4] at e3; cases e3
    | some ns =>
    rw [e4, Option.bind_some] at e3
    cases e5 : ns.findIdx? (fun n => n == i) with
    | none => rw [e5] at e3; cases e3
    | some j =>
    rw [e5] at e3
    cases e3
    have eds := ints_some e4
    subst eds
    refine ⟨B, δ, _, hB, S, e1, fun v H1 s1 r1 => ?_⟩
    unfold Rep at r1
    obtain ⟨a, xs, rfl, hq, rs⟩ := r1
    have ex := reps_int rs
    subst ex
    refine ⟨⟨a, _, rfl, hq⟩, B, δ, _, hB.mono s1, S.mono s1, e2, fun v2 H2 s2 r2 => ?_⟩
    unfold Rep at r2
    subst r2
    exact ⟨a, ns, i, j, rfl, rfl, s2.tup hq, e5, k _ H2 (s1.trans s2) (by unfold Rep; rfl)⟩
end
end L2

/-! ### E13: tuple(range(..)), list(range(..)), int(..) -/
namespace L2
open PySem PySem.Spec PyProof.Rows
open PySem.AutoSeq1 (wpAny_loadPart')
section
variable {prog : Program} {w : World} {A : Around} {E : Value → Shared → Prop} {s : Shared}
end
/-! range(..) as a value -/
def tRngV1 (ta : TA) : TE := fun σ H Q => ta σ H fun vs H1 => ∃ j : Int, vs = [.int j] ∧ ∀ p, H1 p = none → Q (.ref p) (upd H1 p (.rng 0 j))
section
variable {X : Cx}
theorem pe_range1 {a : Expr} {ta : TA} {p pos : Pos} (hg : Gl X "range") (hm : X.mg "range" = none) (ha : PA X [a] ta) (hs : starEach [a] X.env = [(false, eval a X.env)] := by rfl) : PE X (.Call (.Name "range" p) [a] [] pos) (tRngV1 ta) := by
  intro pins s σ H Q I h
  refine wpAny_Call_Name_kw (ld_blt I hg hm boot_range (PyProof.Rows.callWith_type1 (thn (ha pos pins s σ H _ I h) fun us s1 ⟨vs, H1, I1, r1, q1⟩ => ?_) hs rfl))
  obtain ⟨j, e, q⟩ := q1
  subst e
  cases r1 with
  | cons r rr =>
    cases rr
    obtain ⟨t, rfl⟩ := r
    refine call_range_1 ⟨.ref s1.heap.objs.size, _, I1.laid (fun b o e => Heap.get?_push_of_some _ e) (Nat.le_refl _) ?_, rfl, q _ (I1.hok.fresh (Nat.le_refl _))⟩
    exact ⟨_, _, _, Heap.get?_push_size _ rfl⟩
def rngV (lo : Int) (n : Nat) : List V := (List.range n).map fun i => .int (lo + (i : Nat))
theorem items_vals {lo : Int} : ∀ {n : Nat} {acc : Array Value}, ItemsOf (fun i v => ∃ t, v = Value.int (lo + i * 1) t) acc n → Vals (rngV lo n) acc.toList := by
  intro n acc h
  obtain ⟨hs, hv⟩ := h
  have key : ∀ (vs : List Value) (k : Nat), (∀ j v, vs[j]? = some v → ∃ t, v = Value.int (lo + ((k + j : Nat) : Int)) t) → Vals ((List.range' k vs.length).map fun i => V.int (lo + (i : Nat))) vs := by
    intro vs
    induction vs with
    | nil => intro k _; exact .nil
    | cons x r ih =>
      intro k hx
      rw [List.length_cons, List.range'_succ, List.map_cons]
      obtain ⟨t, e⟩ := hx 0 x rfl
      refine .cons ⟨t, by simpa using e⟩ (ih (k + 1) fun j v hj => ?_)
      obtain ⟨t, e⟩ := hx (j + 1) v (by simpa using hj)
      exact ⟨t, by rw [e]; congr 1 <;> omega⟩
  have := key acc.toList 0 fun j v hj => by
    obtain ⟨t, e⟩ := hv j v (by simpa using hj)
    exact ⟨t, by rw [e]; congr 1 <;> omega⟩
  rw [← List.range_eq_range', Array.length_toList, hs] at this
  exact this
theorem rngV_len {lo : Int} {n : Nat} : (rngV lo n).length = n := by simp [rngV]
theorem call_listR (hc : X.calm = true) : CallR X (.type "list") (fun xs H Q => ∃ (p : Addr) (lo hi : Int), xs = [.ref p] ∧ H p = some (.rng lo hi) ∧ (-(2 ^ 62) ≤ lo ∧ lo < 2 ^ 62 ∧ -(2 ^ 62) ≤ hi ∧ hi < 2 ^ 62) ∧ (hi - lo).toNat ≤ sizeLine ∧ ∀ l, H l = none → Q (.ref l) (upd H l (.lst (rngV lo (hi - lo).toNat)))) := by
  intro pins s σ H xs us Q I r h
  obtain ⟨p, lo, hi, rfl, hp, hb, hl, q⟩ := h
  obtain ⟨u, rfl, rx⟩ := vals1 r
  cases rx
  obtain ⟨t, u, v, e⟩ := I.hok p _ hp
  refine call_list_range (I.ok.hd hc) e (small_one hb.1 hb.2.1 hb.2.2.1 hb.2.2.2) (n := (hi - lo).toNat) (by rw [rangeSize_one]; split <;> omega) (by rw [sizeLine_eq] at hl; omega) fun h' tk acc' c' kp e2 it => ?_
  have I2 : Inv X pins σ (upd H s.heap.objs.size (.lst (rngV lo (hi - lo).toNat))) { s with heap := h', toks := tk } :=
    I.laid kp (Nat.le_refl _) (show ObjOk X.prog X.w _ h' _ (.lst (rngV lo (hi - lo).toNat)) from ⟨by rw [rngV_len]; exact hl, acc'.toList, c', items_vals it, by simpa using e2⟩)
  exact ⟨.ref s.heap.objs.size, _, I2, rfl, q _ (I.hok.fresh (Nat.le_refl _))⟩
/-! as trees -/
def dSmall (g : DS → Option (List D)) : DS → Option (List D) := fun δ => (g δ).bind fun ds => if ds.length ≤ sizeLine then some ds else none
theorem reps_rng {K : PySem.W.Frag} {H : Hp} {B : Addr → Prop} {lo : Int} {n : Nat} : Reps K H B (rngL lo n) (rngV lo n) := by
  unfold rngL rngV
  generalize List.range n = l
  induction l with
  | nil => exact .nil
  | cons k r ih => exact .cons (by unfold Rep; rfl) ih
theorem rng1_some {f : DE} {δ : DS} {ds : List D} (h : dRng1 f δ = some ds) : ∃ j : Int, f δ = some (.int j) ∧ -(2 ^ 62) ≤ j ∧ j < 2 ^ 62 ∧ ds = rngL 0 j.toNat := by
  unfold dRng1 at h
  split at h
  · rename_i j e
    split at h
    · rename_i hb
      cases h
      exact ⟨j, e, hb.1, hb.2, rfl⟩
    · cases h
  · cases h
theorem small_some {g : DS → Option (List D)} {δ : DS} {ds : List D} (h : dSmall g δ = some ds) : g δ = some ds ∧ ds.length ≤ sizeLine := by
  unfold dSmall at h
  cases e : g δ with
  | none => rw [e] at h; cases h
  | some es =>
    rw [e] at h
    have h : (if es.length ≤ sizeLine then some es else none) = some ds := h
    split at h
    · cases h; exact ⟨rfl, by assumption⟩
    · cases h
theorem rngL_len {lo : Int} {n : Nat} : (rngL lo n).length = n := by simp [rngL]
variable {a b : Expr} {f g : DE} {p p2 pos pos2 : Pos}
theorem pf_listR1 (hc : X.calm = true) (hg : Gl X "list") (hm : X.mg "list" = none) (hg2 : Gl X "range") (hm2 : X.mg "range" = none) (h : PD X a f) (he2 : starEach [a] X.env = [(false, eval a X.env)] := by rfl)
    (he : starEach [.Call (.Name "range" p2) [a] [] pos2] X.env = [(false, eval (.Call (.Name "range" p2) [a] [] pos2) X.env)] := by rfl) : PF X (.Call (.Name "list" p) [.Call (.Name "range" p2) [a] [] pos2] [] pos) (dSmall (dRng1 f)) :=
  (pe_callTy (call_listR hc) hg hm PyProof.Rows.Boot.«list» (pa_cons (pe_range1 hg2 hm2 (pa_cons h pa_nil he2) he2) pa_nil he) (by decide) (by decide) he rfl).imp fun σ H Q ⟨B, δ, ds, hB, S, e1, k⟩ => by
    obtain ⟨e2, hl⟩ := small_some e1
    obtain ⟨j, e3, h1, h2, rfl⟩ := rng1_some e2
    rw [rngL_len] at hl
    refine ⟨B, δ, _, hB, S, e3, fun v H1 s1 r1 => ?_⟩
    unfold Rep at r1
    subst r1
    refine ⟨j, rfl, fun r hr => ⟨r, 0, j, rfl, upd_same, ⟨by omega, by omega, h1, h2⟩, by simpa using hl, fun l hl' => ?_⟩⟩
    refine k l _ _ ((s1.trans (same_upd hr)).trans (same_upd hl')) (s1.free ((same_upd (H := H1) hr).free hl')) upd_same ?_
    rw [Int.sub_zero]
    exact reps_rng
/-- int(x) -/
def intF : List D → Option D
  | [.int i] => some (.int i)
  | [.bl k] => some (.int (if k then 1 else 0))
  | _ => none
/-- a statement that is not come to -/
theorem s_never {H0 : Hp} {B0 : Addr → Prop} {fr : Bool} {RX : XR} {st : Stmt} : PS X st (tS X.K H0 B0 fr RX fun _ => none) := fun _ _ _ _ _ _ ⟨_, _, _, _, e, _⟩ => nomatch e
end
end L2

/-! ### E14: enumerate(xs), its pairs taken apart at once -/
namespace L2
open PySem PySem.Spec PyProof.Rows
section
variable {X : Cx} {pins : List (Addr × Obj)} {σ : St} {H : Hp} {s : Shared} {h' : Heap}
end
/-! as trees -/
def enumFrom (k : Nat) : List D → List D
  | [] => []
  | d :: r => .tup [.int (k : Nat), d] :: enumFrom (k + 1) r
def enumS : D → Option (List D)
  | .lst ds => some (enumFrom 0 ds)
  | .scr ns => some (enumFrom 0 (ns.map .int))
  | _ => none
def dEnum (f : DE) : DS → Option (List D) := fun δ => (f δ).bind enumS
section
variable {X : Cx}
/-! [elt for a, b in iter if c] -/
def two (h : D → D → Option (Option D)) : D → Option (Option D)
  | .tup [a, b] => h a b
  | _ => none
def compG (fc : DS → Option Bool) (fe : DE) (δ : DS) : D → D → Option (Option D) := fun a b => (fc (δ ++ [some a, some b])).bind fun k => if k = true then (fe (δ ++ [some a, some b])).map some else some none
def dComp2 (fi : DS → Option (List D)) (fc : DS → Option Bool) (fe : DE) : DS → Option (List D) := fun δ => (fi δ).bind fun xs => if xs.length ≤ sizeLine then compL (two (compG fc fe δ)) xs else none
variable {N' : List Str} {sc : Scope} {iter elt : Expr} {ifs : List Expr} {n : Nat} {x y : Str} {px py tp pos : Pos} {x1 : Nat} {fi : DS → Option (List D)} {fc : DS → Option Bool} {fe : DE}
end
end L2

/-! ### E15: dicts by ints and texts, with items that cannot change -/
namespace L2
open PySem PySem.Spec PyProof.Rows
def keyD : D → Option Key
  | .int n => some (.inl n)
  | .str x => some (.inr x)
  | _ => none
theorem key_rep {K : PySem.W.Frag} {H : Hp} {B : Addr → Prop} {d : D} {k : Key} {v : V} (e : keyD d = some k) (r : Rep K H B d v) : v = kV k := by
  unfold keyD at e
  split at e
  · cases e; unfold Rep at r; exact r
  · cases e; unfold Rep at r; exact r
  · cases e
def setK (ks : List Key) (ds : List D) (k : Key) (d : D) : List D := match ks, ds with
  | k' :: ks, e :: ds => (if k' = k then d else e) :: setK ks ds k d
  | _, _ => []
def hasK (ks : List Key) (k : Key) : Bool := ks.any fun k' => decide (k' = k)
def putKs (ks : List Key) (k : Key) : List Key := if hasK ks k = true then ks else ks ++ [k]
def putDs (ks : List Key) (ds : List D) (k : Key) (d : D) : List D := if hasK ks k = true then setK ks ds k d else ds ++ [d]
theorem any_mem {k : Key} {kvs : List (Key × V)} {ks : List Key} (e : kvs.map (·.1) = ks) : (kvs.any fun kv => decide (kv.1 = k)) = hasK ks k := by
  subst e
  unfold hasK
  rw [List.any_map]
  rfl
theorem set_tree {K : PySem.W.Frag} {H : Hp} {k : Key} {d : D} {v : V} (td : Tree K H d v []) : ∀ {kvs : List (Key × V)} {ds : List D}, Trees K H ds (kvs.map (·.2)) [] → Trees K H (setK (kvs.map (·.1)) ds k d) ((kvs.map fun kv => if kv.1 = k then (kv.1, v) else kv).map (·.2)) []
  | [], ds, t => by
    cases ds with
    | nil => exact .nil
    | cons e ds => unfold Trees at t; obtain ⟨_, _, _, _, z, _⟩ := t; cases z
  | p :: r, [], t => by obtain ⟨z, _⟩ := t; cases z
  | p :: r, e :: ds, t => by
    unfold Trees at t
    obtain ⟨x, xs, B, C, e1, t1, t2, e2⟩ := t
    cases e1
    obtain ⟨rfl, rfl⟩ := List.append_eq_nil_iff.mp e2.symm
    have ih := set_tree (k := k) td (kvs := r) t2
    rw [List.map_cons, List.map_cons, List.map_cons]
    unfold setK Trees
    refine ⟨_, _, [], [], rfl, ?_, ih, rfl⟩
    by_cases h : p.1 = k
    · rw [if_pos h, if_pos h]; exact td
    · rw [if_neg h, if_neg h]; exact t1
theorem put_keys {k : Key} {v : V} {kvs : List (Key × V)} : (putK kvs k v).map (·.1) = putKs (kvs.map (·.1)) k := by
  unfold putK putKs
  rw [any_mem (k := k) (kvs := kvs) rfl]
  by_cases h : hasK (kvs.map (·.1)) k = true
  · rw [if_pos h, if_pos h, List.map_map]
    apply List.map_congr_left
    intro p _
    show (if p.1 = k then (p.1, v) else p).1 = p.1
    split <;> rfl
  · rw [if_neg h, if_neg h, List.map_append]
    rfl
theorem put_tree {K : PySem.W.Frag} {H : Hp} {k : Key} {d : D} {v : V} {kvs : List (Key × V)} {ds : List D} (td : Tree K H d v []) (t : Trees K H ds (kvs.map (·.2)) []) : Trees K H (putDs (kvs.map (·.1)) ds k d) ((putK kvs k v).map (·.2)) [] := by
  unfold putK putDs
  rw [any_mem (k := k) (kvs := kvs) rfl]
  by_cases h : hasK (kvs.map (·.1)) k = true
  · rw [if_pos h, if_pos h]
    exact set_tree td t
  · rw [if_neg h, if_neg h, List.map_append]
    exact t.snoc td
theorem val_none {k : Key} {kvs : List (Key × V)} : (valV kvs k).isSome = hasK (kvs.map (·.1)) k := by rw [← valV_any]; exact any_mem rfl
/-! rules -/
def inK : D → D → Option Bool := fun x y => match y with
  | .dct ks _ => (keyD x).map fun k => hasK ks k
  | _ => none
def dDIn (f g : DE) : DS → Option Bool := fun δ => (f δ).bind fun x => (g δ).bind fun y => inK x y
def dDNin (f g : DE) : DS → Option Bool := fun δ => (dDIn f g δ).map (!·)
section
variable {X : Cx} {a b o i value : Expr} {f g : DE} {pos pos' : Pos}
theorem din_some {δ : DS} {c : Bool} (h : dDIn f g δ = some c) : ∃ x k ks ds, f δ = some x ∧ keyD x = some k ∧ g δ = some (.dct ks ds) ∧ c = hasK ks k := by
  unfold dDIn at h
  cases e1 : f δ with
  | none => rw [e1] at h; cases h
  | some x =>
    rw [e1] at h
    cases e2 : g δ with
    | none => rw [e2] at h; cases h
    | some y =>
      rw [e2] at h
      have h : inK x y = some c := h
      unfold inK at h
      split at h
      · cases e3 : keyD x with
        | none => rw [e3] at h; cases h
        | some k => rw [e3] at h; cases h; exact ⟨x, k, _, _, rfl, e3, rfl, rfl⟩
      · cases h
theorem pt_din (hu : X.A.units + 64 < cLine) (ha : PD X a f) (hb : PD X b g) (hm : behindInMarks .In b = false := by rfl) : PTD X (.Compare a [.In] [b] pos) (dDIn f g) :=
  (pt_cmp (pc_din (by omega) ha hb) hm).imp fun σ H Q ⟨B, δ, c, hB, S, q, k⟩ => by
    obtain ⟨x, ky, ks, ds, e1, e2, e3, rfl⟩ := din_some q
    refine ⟨B, δ, x, hB, S, e1, fun v H1 s1 r1 => ⟨B, δ, _, hB.mono s1, S.mono s1, e3, fun w H2 s2 r2 => ?_⟩⟩
    unfold Rep at r2
    obtain ⟨p, kvs, rfl, n, hp, ek, rs⟩ := r2
    have ev := key_rep e2 r1
    subst ev
    refine ⟨p, valV kvs ky, rfl, DGet.k hp, _, rfl, ?_⟩
    rw [val_none, ek]
    exact k H2 (s1.trans s2)
theorem pn_dnew : PN X (.Dict [] [] pos) (dC (.dct [] [])) := pe_dnewK.imp fun σ H Q ⟨δ, d, S, q, k⟩ => by
  cases q
  intro p hp
  refine k _ _ [p] (same_upd hp) ?_ (List.nodup_cons.mpr ⟨fun z => (nomatch z), List.nodup_nil⟩) fun a ha => ?_
  · unfold Tree
    exact ⟨p, [], [], rfl, upd_same, rfl, .nil, rfl⟩
  · rw [List.mem_singleton.mp ha]; exact hp
variable {H0 : Hp} {B0 : Addr → Prop} {fr : Bool} {RX : XR} {x : Str} {px : Pos} {ke e : Expr}
def dput (i : Nat) (fk fv : DE) : SS → Option Out := fun δ => (fv (allV δ)).bind fun d => if d.imm = true then (fk (allV δ)).bind fun dk => (match keyD dk, δ[i]? with
  | some k, some (some (.ow (.dct ks ds))) => if imms ds = true ∧ ks.length < sizeLine then some (.nx ((dropBs i δ).set i (some (.ow (.dct (putKs ks k) (putDs ks ds k d)))))) else none
  | _, _ => none) else none
theorem trees_imm {K : PySem.W.Frag} {H : Hp} {ds : List D} {xs : List V} {A : List Addr} (t : Trees K H ds xs A) (h : imms ds = true) : Trees K H ds xs [] := Reps.immTree (B := fun _ => False) ds h (t.rep ds fun _ _ z => z)
theorem s_dput {i : Nat} {fk fv : DE} (hu : X.A.units + 64 < cLine) (hx : PE X (.Name x px) (tVar i)) (hk : PD X ke fk) (hv : PD X e fv)
    (hs : swapsWith e (some (.Subscript (.Name x px) ke pos')) pos.line X.env = pure false := by rfl) :
    PS X (.Assign [.Subscript (.Name x px) ke pos'] e pos) (tS X.K H0 B0 fr RX (dput i fk fv)) :=
  PS.imp (ps_dput (by omega) hx hk hv hs) fun D σ H ⟨δ, R, o, rs, q, kk⟩ => by
    unfold dput at q
    cases e1 : fv (allV δ) with
    | none => rw [e1] at q; cases q
    | some d =>
    rw [e1, Option.bind_some] at q
    split at q
    case isFalse => cases q
    case isTrue hi =>
    cases e2 : fk (allV δ) with
    | none => rw [e2] at q; cases q
    | some dk =>
    rw [e2, Option.bind_some] at q
    split at q
    case h_2 => cases q
    case h_1 k ks ds e3 ei =>
    split at q
    case isFalse => cases q
    case isTrue hc =>
    cases q
    obtain ⟨v0, ev, t0, nd⟩ := rs.ow i _ ei
    unfold Tree at t0
    obtain ⟨a, kvs, A, rfl, ha, ek, ts, eR⟩ := t0
    have ts := trees_imm ts hc.1
    refine ⟨noB, allV δ, d, .no, rs.all, e1, fun v H1 s1 r1 => ⟨.ref a, ev, noB, allV δ, dk, .no, rs.all.mono s1, e2, fun kv H2 s2 r2 => ?_⟩⟩
    have ekv := key_rep e3 r2
    subst ekv
    subst ek
    have ha2 : H2 a = some (.dK kvs) := s2 _ _ (s1 _ _ ha)
    refine ⟨a, _, rfl, DPut.k ha2 (by rw [← List.length_map (f := (·.1))]; exact hc.2), ?_⟩
    have haR : a ∈ R i := by rw [eR]; exact List.mem_cons_self
    have mu : Mut (H2 a) := by rw [ha2]; exact trivial
    have td : Tree X.K H2 d v [] := (r1.immTree d hi).mono s2
    have tp := put_tree (k := k) td (ts.mono (s1.trans s2))
    have P := rs.rewrite (d' := .dct (putKs (kvs.map (·.1)) k) (putDs (kvs.map (·.1)) ds k d)) (a := a) (o := .dK (putK kvs k v)) (A' := [a]) (s1.trans s2) ei ev haR (by
      unfold Tree
      exact ⟨a, putK kvs k v, [], rfl, upd_same, put_keys, Trees.keep (Keep.upd (K := X.K) (B := fun x => x = a) rfl mu).i _ tp fun b hb => (nomatch hb), rfl⟩) (List.nodup_cons.mpr ⟨fun z => (nomatch z), List.nodup_nil⟩) fun b hb => by
        rw [List.mem_singleton.mp hb]; exact .inl haR
    exact kk σ _ _ P.1 P.2
end
end L2

/-! ### E16: x[::-1], lists put together, list.index, max, min -/
namespace HT
open PySem PySem.Spec PyProof.Rows
section
variable {prog : Program} {w : World} {A : Around} {E : Value → Shared → Prop} {s : Shared}
end
end HT
namespace L2
open PySem PySem.Spec PyProof.Rows
section
variable {X : Cx} {e st : Expr} {te : TE} {tk : TO} {pos p2 : Pos}
theorem Reps.reverse {K : PySem.W.Frag} {H : Hp} {B : Addr → Prop} : ∀ {ds : List D} {xs : List V}, Reps K H B ds xs → Reps K H B ds.reverse xs.reverse
  | [], _, h => by unfold Reps at h; subst h; exact .nil
  | d :: ds, _, h => by
    unfold Reps at h
    obtain ⟨x, r, rfl, h1, h2⟩ := h
    rw [List.reverse_cons, List.reverse_cons]
    exact (Reps.reverse h2).snoc h1
def revT : D → D → Option D
  | .tup ds, .int k => if k = -1 then some (.tup ds.reverse) else none
  | _, _ => none
def revLs : D → D → Option (List D)
  | .lst ds, .int k => if k = -1 then some ds.reverse else none
  | .scr ns, .int k => if k = -1 then some (ns.map D.int).reverse else none
  | _, _ => none
def dRevL (f g : DE) : DS → Option (List D) := fun δ => (f δ).bind fun x => (g δ).bind fun y => revLs x y
variable {f g : DE}
/-! lists put together -/
variable {a b : Expr}
def catLs : D → D → Option (List D)
  | .lst ds, .lst es => if ds.length + es.length ≤ sizeLine then some (ds ++ es) else none
  | _, _ => none
def dCat (f g : DE) : DS → Option (List D) := fun δ => (f δ).bind fun x => (g δ).bind fun y => catLs x y
theorem pf_cat (ha : PD X a f) (hb : PD X b g) : PF X (.BinOp a .Add b pos) (dCat f g) := (pe_op op_cat ha hb).imp fun σ H Q ⟨B, δ, ds, hB, S, q, k⟩ => by
  unfold dCat at q
  cases e1 : f δ with
  | none => rw [e1] at q; cases q
  | some x =>
  rw [e1, Option.bind_some] at q
  cases e2 : g δ with
  | none => rw [e2] at q; cases q
  | some y =>
  rw [e2, Option.bind_some] at q
  unfold catLs at q
  split at q
  case h_2 => cases q
  case h_1 xs ys =>
  split at q
  case isFalse => cases q
  case isTrue hl =>
  cases q
  refine ⟨B, δ, _, hB, S, e1, fun v H1 s1 r1 => ⟨B, δ, _, hB.mono s1, S.mono s1, e2, fun v2 H2 s2 r2 => ?_⟩⟩
  unfold Rep at r1 r2
  obtain ⟨p1, vs, rfl, n1, h1, rs1⟩ := r1
  obtain ⟨p2, ws, rfl, n2, h2, rs2⟩ := r2
  refine ⟨p1, p2, vs, ws, rfl, rfl, s2 _ _ h1, h2, by rw [← rs1.length, ← rs2.length]; exact hl, fun p hp => ?_⟩
  exact k p _ _ ((s1.trans s2).trans (same_upd hp)) ((s1.trans s2).free hp) upd_same (((rs1.mono s2).append rs2).mono (same_upd hp))
/-! max, min of two ints -/
def maxF : List D → Option D
  | [.int i, .int j] => some (.int (if j > i then j else i))
  | _ => none
variable {p : Pos}
end
end L2

/-! ### E17: list.index; extend, clear of an owned list -/
namespace L2
open PySem PySem.Spec PyProof.Rows
section
variable {X : Cx} {o e : Expr} {apos cpos : Pos}
def rLIx (K : PySem.W.Frag) : V → List V → Hp → VK → Prop := fun x vs H Q => ∃ (a : Addr) (ns : List Int) (i : Int) (j : Nat), x = .ref a ∧ vs = [.int i] ∧ SqL K H a (ns.map V.int) ∧ ns.findIdx? (fun n => n == i) = some j ∧ Q (.int (j : Int)) H
theorem mt_lindex : MtR X "list.index" (rLIx X.K) := by
  intro pins s σ H x vs v us Q I rx rv h
  obtain ⟨a, ns, i, j, rfl, rfl, hq, hj, q⟩ := h
  cases rx
  obtain ⟨u, rfl, ru⟩ := rv.one
  obtain ⟨ut, rfl⟩ := ru
  obtain ⟨its, r, ⟨⟨cls, dct, dat, sl⟩, n, e, c, d, hd⟩, hz⟩ := I.list hq
  have c : cls = .type "list" := c
  have hd : dat = .seq its.toArray n := hd
  subst c; subst hd
  obtain ⟨hjl, hji, hjm⟩ := List.findIdx?_eq_some_iff_getElem.mp hj
  have hl : ns.length = its.length := by have := r.length; simpa using this
  have hj2 : j < its.length := by omega
  rw [sizeLine_eq, List.length_map] at hz
  refine call_meets F.slot_list_index ⟨_, e, rfl⟩ F.entry_list_index (F.args_list_index_2 _ _) (SeqAt.list_indexAt a its.toArray n dct sl (.int i ut) (isI i) j (by simpa using hj2) (by omega) ?_ ?_) ⟨e, ?_, ?_⟩
  · obtain ⟨t, h2, e2⟩ := valsI r j hj2
    simp [e2, isI]
    simpa using hji
  · intro m hm hmj
    obtain ⟨t, h2, e2⟩ := valsI r m (by omega)
    have := hjm m hmj
    simp [e2, isI]
    simpa using this
  · intro y hy
    obtain ⟨k, hk, rfl⟩ := List.getElem_of_mem (show y ∈ its by simpa using hy)
    obtain ⟨t, h2, e2⟩ := valsI r k hk
    rw [e2]
    exact SeqAt.EqAt.int_int _ _ _ _
  · exact ⟨.int (j : Int), H, I.tok _, ⟨_, rfl⟩, q⟩
def lixF : D → D → Option D
  | .lst ds, .int i => (ints' ds).bind fun ns => (ns.findIdx? (fun n => n == i)).map fun j => .int (j : Int)
  | _, _ => none
theorem pd_lindex {f g : DE} (ho : PD X o f) (he : PD X e g) (hbase : attributeBase o "index" X.env (eval o X.env) = eval o X.env := by rfl)
    (hfew : ((backTo cpos (starEach [e] X.env)).all (fun x => !x.1) && (backToKw cpos (keywordEach [] X.env)).all (fun x => x.1.isSome) && decide ([e].length + ([] : List Keyword).length + (if ([] : List Keyword).isEmpty then 0 else 1) < 30)) = true := by rfl)
    (hline : (apos.endLine == cpos.line) = true := by rfl) (hs : starEach [e] X.env = (false, eval e X.env) :: starEach [] X.env := by rfl) :
    PD X (.Call (.Attribute o "index" apos) [e] [] cpos) (d2 lixF f g) :=
  (pe_bm PySem.F.plainAttrs_list PySem.F.slot_list_index PySem.F.type_list_index mt_lindex ho (pa_cons he pa_nil hs) hbase hfew hline hs rfl).imp fun σ H Q ⟨B, δ, d, hB, S, q, k⟩ => by
    obtain ⟨x, y, e1, e2, e3⟩ := d2_some q
    unfold lixF at e3
    split at e3
    case h_2 => cases e3
    case h_1 ds i =>
    cases e4 : ints' ds with
    | none => rw [e4] at e3; cases e3
    | some ns =>
    rw [e4, Option.bind_some] at e3
    cases e5 : ns.findIdx? (fun n => n == i) with
    | none => rw [e5] at e3; cases e3
    | some j =>
    rw [e5] at e3
    cases e3
    have eds := ints_some e4
    subst eds
    refine ⟨B, δ, _, hB, S, e1, fun v H1 s1 r1 => ?_⟩
    unfold Rep at r1
    obtain ⟨a, xs, rfl, nb, hq, rs⟩ := r1
    have ex := reps_int rs
    subst ex
    refine ⟨.inl ⟨rfl, _, SqL.of hq⟩, B, δ, _, hB.mono s1, S.mono s1, e2, fun v2 H2 s2 r2 => ?_⟩
    unfold Rep at r2
    subst r2
    exact ⟨a, ns, i, j, rfl, rfl, SqL.of (s2 _ _ hq), e5, k _ H2 (s1.trans s2) (by unfold Rep; rfl)⟩
end
end L2
namespace L2
open PySem PySem.Spec PyProof.Rows
section
variable {X : Cx} {H0 : Hp} {B0 : Addr → Prop} {fr : Bool} {RX : XR} {e : Expr} {pos : Pos} {f : DE}
/-- a call for itself -/
def exprN (f : DE) : SS → Option Out := fun δ => (f (allV δ)).map fun _ => .nx δ
end
end L2

/-! ### E18: range(lo, hi, step); while; x is None -/
namespace L2
open PySem PySem.Spec PyProof.Rows
def cntR (lo hi c : Int) : Nat := if lo < hi then ((hi - lo - 1) / c + 1).toNat else 0
section
variable {X : Cx} {tg : Expr}
def rngC (lo c : Int) (n : Nat) : List D := (List.range n).map fun i => .int (lo + (i : Nat) * c)
def rng3 : Option D → Option D → Option D → Option (List D)
  | some (.int i), some (.int j), some (.int c) => if -(2 ^ 61) ≤ i ∧ i < 2 ^ 61 ∧ -(2 ^ 61) ≤ j ∧ j < 2 ^ 61 ∧ 0 < c ∧ c < 2 ^ 30 then some (rngC i c (cntR i j c)) else none
  | _, _, _ => none
def dRng3 (f g h : DE) : DS → Option (List D) := fun δ => rng3 (f δ) (g δ) (h δ)
end
/-! while -/
def whileD (c : DS → Option Bool) (b : SS → Option Out) : Nat → SS → Option Out
  | 0, _ => none
  | n + 1, δ => (c (allV δ)).bind fun k => if k = true then (b δ).bind fun o => (match o with
    | .nx δ' => whileD c b n δ'
    | .ct δ' => whileD c b n δ'
    | .bk δ' => some (.nx δ')
    | .rt d => some (.rt d)
    | .rb d δ' => some (.rb d δ')
    | .ex c δ' => some (.ex c δ')) else some (.nx δ)
section
variable {X : Cx} {H0 : Hp} {B0 : Addr → Prop} {fr : Bool} {RX : XR} {pos : Pos}
theorem s_while {c : Expr} {body : List Stmt} {fc : DS → Option Bool} {g : SS → Option Out} (n : Nat) (hp : PassesOwn (model X.prog X.w) X.A X.env X.xe) (hc : PTD X c fc) (hb : PSs X body (tS X.K H0 B0 fr RX g)) : PS X (.While c body [] pos) (tS X.K H0 B0 fr RX (whileD fc g n)) :=
  PS.imp (ps_while hp hc hb) fun D σ H ⟨δ, R, o, rs, q, k⟩ => by
    refine ⟨fun m σ' H' => ∃ δ' R', RS X.K H0 B0 H' σ' δ' R' ∧ Stp R H R' H' ∧ whileD fc g m δ' = some o, ⟨n, δ, R, rs, .refl R H, q⟩, ?_⟩
    rintro m σ' H' ⟨δ', R', rs', s', q'⟩
    cases m with
    | zero => cases q'
    | succ m =>
      unfold whileD at q'
      cases ec : fc (allV δ') with
      | none => rw [ec] at q'; cases q'
      | some kk =>
        rw [ec, Option.bind_some] at q'
        refine ⟨noB, allV δ', kk, .no, rs'.all, ec, fun H1 s1 => ?_⟩
        have rs1 := rs'.mono s1
        have st1 : Stp R H R' H1 := s'.trans (.same s1)
        cases kk with
        | false =>
          rw [if_neg Bool.false_ne_true] at q'
          cases q'
          exact k σ' H1 R' rs1 st1
        | true =>
          rw [if_pos rfl] at q'
          cases eb : g δ' with
          | none => rw [eb] at q'; cases q'
          | some ob =>
            rw [eb, Option.bind_some] at q'
            refine ⟨fun σ2 H2 => ∃ δ2 R2, RS X.K H0 B0 H2 σ2 δ2 R2 ∧ Stp R H R2 H2 ∧ whileD fc g m δ2 = some o, fun σ2 H2 z => ⟨m, Nat.lt_succ_self m, z⟩, δ', R', ob, rs1, eb, ?_⟩
            cases ob with
            | nx δ2 => exact fun σ3 H3 R3 rs3 s3 => ⟨δ2, R3, rs3, st1.trans s3, q'⟩
            | ct δ2 => exact fun σ3 H3 R3 rs3 s3 => ⟨δ2, R3, rs3, st1.trans s3, q'⟩
            | bk δ2 =>
              cases q'
              exact fun σ3 H3 R3 rs3 s3 => k σ3 H3 R3 rs3 (st1.trans s3)
            | rt d =>
              cases q'
              exact k.back st1
            | rb d δ2 =>
              cases q'
              exact k.back st1
            | ex c δ2 =>
              cases q'
              exact k.back st1
/-! x is None -/
def isN : D → Bool
  | .non => true
  | _ => false
theorem rep_isN {K : PySem.W.Frag} {H : Hp} {B : Addr → Prop} {d : D} {v : V} (r : Rep K H B d v) : decide (v = V.non) = isN d := by
  cases d with
  | non => unfold Rep at r; subst r; rfl
  | bl b => unfold Rep at r; subst r; rfl
  | int i => unfold Rep at r; subst r; rfl
  | str x => unfold Rep at r; subst r; rfl
  | lst ds => unfold Rep at r; obtain ⟨a, xs, rfl, _⟩ := r; rfl
  | tup ds => unfold Rep at r; obtain ⟨a, xs, rfl, _⟩ := r; rfl
  | scr ns => unfold Rep at r; obtain ⟨a, rfl, _⟩ := r; rfl
  | dct ks ds => unfold Rep at r; obtain ⟨a, kvs, rfl, _⟩ := r; rfl
  | exc x => unfold Rep at r; obtain ⟨a, C, rfl, _⟩ := r; rfl
  | obj x a ks ds => unfold Rep at r; obtain ⟨C, dx, fs, _, _, ⟨rfl, _⟩, _⟩ := r; rfl
def dIsN (f : DE) : DS → Option Bool := fun δ => (f δ).map isN
def dNotN (f : DE) : DS → Option Bool := fun δ => (f δ).map fun d => !isN d
variable {a : Expr} {f : DE}
theorem pt_isNone {j pos'} (ha : PD X a f) (hm : behindInMarks .Is (.Constant .none j pos') = false := by rfl) : PTD X (.Compare a [.Is] [.Constant .none j pos'] pos) (dIsN f) := (pt_cmp (pc_isN ha) hm).imp fun σ H Q ⟨B, δ, c, hB, S, q, k⟩ => by
  unfold dIsN at q
  cases e : f δ with
  | none => rw [e] at q; cases q
  | some d =>
    rw [e] at q
    cases q
    refine ⟨B, δ, d, hB, S, e, fun v H1 s1 r1 => ⟨_, rfl, ?_⟩⟩
    rw [rep_isN r1]
    exact k H1 s1
theorem pt_notNone {j pos'} (ha : PD X a f) (hm : behindInMarks .IsNot (.Constant .none j pos') = false := by rfl) : PTD X (.Compare a [.IsNot] [.Constant .none j pos'] pos) (dNotN f) := (pt_cmp (pc_notN ha) hm).imp fun σ H Q ⟨B, δ, c, hB, S, q, k⟩ => by
  unfold dNotN at q
  cases e : f δ with
  | none => rw [e] at q; cases q
  | some d =>
    rw [e] at q
    cases q
    refine ⟨B, δ, d, hB, S, e, fun v H1 s1 r1 => ⟨_, rfl, ?_⟩⟩
    rw [rep_isN r1]
    exact k H1 s1
end
end L2

/-! ### E19: x is True; xs.clear(), xs.extend(..); sorted of ints -/
namespace L2
open PySem PySem.Spec PyProof.Rows
section
variable {X : Cx} {a b : Expr} {f g : DE} {pos : Pos}
def isB : D → D → Option D
  | .bl c, .bl d => some (.bl (c == d))
  | _, _ => none
def notB : D → D → Option D
  | .bl c, .bl d => some (.bl (c != d))
  | _, _ => none
variable {H0 : Hp} {B0 : Addr → Prop} {fr : Bool} {RX : XR} {x : Str} {px ap cp : Pos} {e : Expr}
def clr0 (i : Nat) : SS → Option Out := fun δ => match δ[i]? with
  | some (some (.ow (.lst _))) => some (.nx ((dropBs i δ).set i (some (.ow (.lst [])))))
  | _ => none
def ext0N (i : Nat) (f : DE) : SS → Option Out := fun δ => (f (allV δ)).bind fun d => (match d, δ[i]? with
  | .lst es, some (some (.ow (.lst ds))) => if ds.length + es.length ≤ sizeLine then some (.nx ((dropBs i δ).set i (some (.ow (.lst (ds ++ es)))))) else none
  | _, _ => none)
end
end L2

/-! ### E20: sorted of ints -/
namespace L2
open PySem PySem.Spec PyProof.Rows
def insS (x : Int) : List Int → List Int
  | [] => [x]
  | y :: r => if x ≤ y then x :: y :: r else y :: insS x r
def srtI : List Int → List Int
  | [] => []
  | x :: r => insS x (srtI r)
section
variable {prog : Program} {w : World} {A : Around} {E : Value → Shared → Prop} {s : Shared}
end
section
variable {X : Cx}
variable {e : Expr} {f : DE} {p pos : Pos}
end
end L2

/-! ### E21: list(reversed(xs)), xs a list -/
namespace L2
open PySem PySem.Spec PyProof.Rows
section
variable {prog : Program} {w : World} {A : Around} {s : Shared} {R : Result → Shared → Prop}
variable {I : Addr} {fp wr : List Addr} {G : Array GenState → Array GenState → Prop} {n : Nat} {P : Nat → Value → Prop} {St : Nat → Shared → Prop}
end
section
variable {prog : Program} {w : World} {A : Around} {E : Value → Shared → Prop} {s : Shared}
end
section
variable {X : Cx}
def revF : List D → Option (List D)
  | [.lst ds] => some ds.reverse
  | _ => none
end
end L2

/-! ### E22: an exception passes a frame: what is left as it was -/
namespace L2
open PySem PySem.Spec PyProof.Rows
/-- the exception at e of the class cls, its newest traceback entry at T -/
def Thr (h : Heap) (e T : Addr) (cls : Value) : Prop := ∃ oe vs oT ts, h.get? e = some oe ∧ oe.cls = cls ∧ oe.data = .fields vs ∧ vs[1]? = some (.ref T) ∧ T ≠ e ∧ h.get? T = some oT ∧ oT.data = .fields ts ∧ ts[3]? = some .none ∧ oe.dict = none
structure Gone (S ch : List Addr) (e : Addr) (cls : Value) (h h' : Heap) : Prop where
  keep : ∀ b o, b ∉ S → b ∉ ch → h.get? b = some o → h'.get? b = some o
  slot : ∀ b o, b ∈ S → b ∉ ch → h.get? b = some o → ∃ sl, h'.get? b = some { o with slots := sl }
  there : ∀ b o, h.get? b = some o → ∃ o', h'.get? b = some o'
  thr : ∃ T, h.objs.size ≤ T ∧ Thr h' e T cls
section
variable {M : Model} {A : Around} {E : Value → Shared → Prop} {s : Shared}
end
end L2

/-! ### E23: an exception leaves a def, and passes its callers -/
namespace L2
open PySem PySem.Spec PyProof.Rows
theorem ObjOk.some {P : Program} {w : World} {H : Hp} {h : Heap} {a : Addr} {o : HO} (x : ObjOk P w H h a o) : ∃ ob, h.get? a = Option.some ob := by
  cases q : h.get? a with
  | some ob => exact ⟨ob, rfl⟩
  | none =>
    have y : ObjOk P w H h a o := x
    induction o with
    | lst xs => obtain ⟨_, _, _, _, e⟩ := x; rw [q] at e; cases e
    | tup xs => obtain ⟨_, _, _, _, e, _⟩ := x; rw [q] at e; cases e
    | dK kvs => obtain ⟨_, _, _, _, _, _, _, e, _⟩ := x; rw [q] at e; cases e
    | dT kvs => obtain ⟨_, _, _, _, _, _, _, e, _⟩ := x; rw [q] at e; cases e
    | set S n => obtain ⟨_, _, _, _, e, _⟩ := x; rw [q] at e; cases e
    | ins C dx fs => obtain ⟨_, _, _, e, _⟩ := x; rw [q] at e; cases e
    | own y => obtain ⟨_, e⟩ := x; rw [q] at e; cases e
    | xd fs => obtain ⟨_, ⟨_, _, _, e, _⟩, _⟩ := x; rw [q] at e; cases e
    | met f y => have e := x; unfold ObjOk at e; rw [q] at e; cases e
    | rng lo hi => obtain ⟨_, _, _, e⟩ := x; rw [q] at e; cases e
    | frz ob u ih => have e := x.1; rw [q] at e; cases e
    | tbl ps => have e := x; unfold ObjOk at e; rw [q] at e; cases e
    | ext φ => obtain ⟨_, ⟨_, e⟩, _⟩ := x; rw [q] at e; cases e
section
variable {X : Cx} {pins : List (Addr × Obj)} {σ : St} {H : Hp} {s : Shared}
/-- a record of ours that is not tracked and was not there at the entry -/
def FpX (X : Cx) (pins : List (Addr × Obj)) (H : Hp) (b : Addr) : Prop :=
  H b = none ∧ b ≠ X.env.locals ∧ (b ∈ X.ex ∨ X.s₀.heap.get? b = none) ∧ (∀ x c, X.env.cells.lookup x = some c → c ≠ b) ∧ ∀ p ∈ X.pn ++ pins, p.1 ≠ b
theorem Inv.gone {ch : List Addr} {e : Addr} {cls : Value} {h' : Heap} (I : Inv X pins σ H s) (G : Gone (frs X.stack) ch e cls s.heap h') (hch : ∀ b ∈ ch, FpX X pins H b) : Inv X pins σ H { s with heap := h' } := by
  have nS : ∀ b u, H b = some u → b ∉ frs X.stack := fun b u q z => by rw [I.stkFree b z] at q; cases q
  have nC : ∀ b u, H b = some u → b ∉ ch := fun b u q z => by rw [(hch b z).1] at q; cases q
  have hok : HOk X.prog X.w H h' := fun b u q => (I.hok b u q).stay (fun c v hc e => by
    rcases hc with rfl | z
    · exact G.keep _ v (nS _ u q) (nC _ u q) e
    · exact G.keep c v (nS c _ z) (nC c _ z) e) (fun _ q => q) fun _ _ q => q
  have any : ∀ b o, b ∉ ch → s.heap.get? b = some o → ∃ sl, h'.get? b = some { o with slots := sl } := fun b o hc q => by
    by_cases hb : b ∈ frs X.stack
    · exact G.slot b o hb hc q
    · exact ⟨o.slots, G.keep b o hb hc q⟩
  have new : ∀ b o, X.s₀.heap.get? b = some o → b ∉ X.ex → b ∉ ch := fun b o q hx z => by
    rcases (hch b z).2.2.1 with y | y
    · exact hx y
    · rw [y] at q; cases q
  have kp : ∀ b o, b ≠ X.env.locals → b ∉ X.fs → b ∉ ch → s.heap.get? b = some o → h'.get? b = some o := fun b o hL hb hc q =>
    G.keep b o (fun z => (List.mem_cons.mp (I.stkSub b z)).elim hL hb) hc q
  have old : ∀ b o, X.s₀.heap.get? b = some o → b ≠ X.env.locals := fun b o q => Nat.ne_of_lt (Nat.lt_of_lt_of_le (Heap.lt_size q) I.ok.above)
  have cellK : ∀ x c, X.env.cells.lookup x = some c → ∀ v, s.heap.IsCell c v → h'.IsCell c v := fun x c q v ⟨o, ho, hd⟩ => by
    obtain ⟨sl, y⟩ := any c o (fun z => (hch c z).2.2.2.1 x c q rfl) ho
    exact ⟨_, y, hd⟩
  refine ⟨I.ok, I.os, I.bare, ⟨?_, ?_, fun b o q n hx => I.base.free b o q n hx, ?_, I.base.tups, I.base.frzs, I.base.tbls⟩, ?_, ?_, I.free, I.freeC, ?_, hok, I.len⟩
  · exact fun b o q n hb hx => kp b o (old b o q) hb (new b o q hx) (I.base.keep b o q n hb hx)
  · intro b o q n hb hx
    obtain ⟨sl, q1⟩ := I.base.slot b o q n hb hx
    obtain ⟨sl', q2⟩ := any b _ (new b o q hx) q1
    exact ⟨sl', q2⟩
  · intro b o q hx
    obtain ⟨o', q1⟩ := I.base.there b o q hx
    exact G.there b o' q1
  · obtain ⟨m, ⟨o, es, ep, ho, r⟩, hl⟩ := I.loc
    obtain ⟨sl, hL⟩ := any _ o (fun z => (hch _ z).2.1 rfl) ho
    refine ⟨m, ⟨_, es, ep, hL, r⟩, fun i x v e1 e2 e3 => ?_⟩
    obtain ⟨u, r, l⟩ := hl i x v e1 e2 e3
    exact ⟨u, r, l.imp id fun ⟨k, c, q, z⟩ => ⟨k, c, q, cellK x c q _ z⟩⟩
  · intro x c q
    obtain ⟨v, z⟩ := I.cell x c q
    exact ⟨v, cellK x c q v z⟩
  · intro p hp
    obtain ⟨q, n, ne, nf, d⟩ := I.pin p hp
    exact ⟨kp p.1 p.2 ne nf (fun z => (hch p.1 z).2.2.2.2 p hp rfl) q, n, ne, nf, d⟩
end
/-- an exception behind a call: its object, its newest traceback entry (both new, neither tracked), its class -/
def CXE (P : Program) (w : World) : CXT := fun outer H s E e s' => ∃ (ea T : Addr) (cls : Value) (H' : Hp), e = .ref ea ∧ s'.os = s.os ∧ AllBare s'.gens ∧ Un (frs outer) [] H H' s.heap s'.heap ∧ HOk P w H' s'.heap ∧
  s.heap.get? ea = none ∧ s.heap.get? T = none ∧ H' ea = none ∧ H' T = none ∧ Thr s'.heap ea T cls ∧ E cls none H'
section
variable {P : Program} {w : World} {K : PySem.W.Frag} {mg : Str → Option Value} {base : Heap} {N : List Str} {qual : Str} {scope : Scope} {f : Addr} {cd : Value} {A : Around} {outer : List Env} {s : Shared} {H : Hp} {E : XK}
end
end L2

/-! ### E24: raise C(e) -/
namespace L2
open PySem PySem.Spec PyProof.Rows
section
variable {X : Cx} {x : Str} {C : Addr} {B Bn newId nid initId inN : String} {bm bmN : List Value} {np cpos pos : Pos} {e₀ : Expr} {te : TE}
variable {H0 : Hp} {B0 : Addr → Prop} {fr : Bool} {RX : XR}
def raiseO (c : Nat) (f : DE) : SS → Option Out := fun δ => (f (allV δ)).map fun _ => .ex c δ
end
end L2

/-! ### E25: defs that may raise -/
namespace L2
open PySem PySem.Spec PyProof.Rows
inductive XO where
  | val (d : D) | exc (c : Nat)
section
variable {P : Program} {w : World} {K : PySem.W.Frag} {mg : Str → Option Value} {base : Heap}
structure DefX (P : Program) (w : World) (K : PySem.W.Frag) (mg : Str → Option Value) (base : Heap) (k : Nat) (x : Str) (sp : Sp) : Prop where
  ok : ∃ (f : Addr) (fd : FuncData) (ps : List Str), mg x = some (.ref f) ∧ PySem.W.keepIn K (.ref f) = true ∧ Binds K fd ps [] ∧ FnOk P w K mg base (CXE P w) k f fd ps sp
end
section
variable {X : Cx} {k : Nat} {f : Addr} {fd : FuncData} {ps : List Str} {sp : Sp} {cl : Nat → Value} {RX : XR}
end
end L2

/-! ### E26: a call that may raise, as a whole statement -/
namespace L2
open PySem PySem.Spec PyProof.Rows
section
variable {X : Cx} {k : Nat} {sp : Sp} {cl : Nat → Value} {RX : XR} {x : Str} {p pos pos2 : Pos} {e : Expr} {es : List Expr} {t : TA}
def dCallX (m : List D → Option XO) (fl : List DE) : DS → Option XO := fun δ => (dArgs fl δ).bind m
variable {H0 : Hp} {B0 : Addr → Prop} {fr : Bool} {F : DS → Option XO}
def retX (F : DS → Option XO) : SS → Option Out := fun δ => (F (allV δ)).map fun o => match o with
  | .val d => .rt d
  | .exc c => .ex c δ
def exprX (F : DS → Option XO) : SS → Option Out := fun δ => (F (allV δ)).map fun o => match o with
  | .val _ => .nx δ
  | .exc c => .ex c δ
def asgX (i : Nat) (F : DS → Option XO) : SS → Option Out := fun δ => (F (allV δ)).map fun o => match o with
  | .val d => .nx (δ.set i (some (.ow d)))
  | .exc c => .ex c δ
end
end L2

/-! ### E27: except C: suite -/
namespace L2
open PySem PySem.Spec PyProof.Rows
/-- within an except suite; no exception leaves it -/
abbrev Cx.suite (X : Cx) (e : Value) : Cx := { X with A := X.A.mark (some e), calm := false, xe := fun _ _ => False }
section
variable {X : Cx} {pins : List (Addr × Obj)} {σ : St} {H : Hp} {s : Shared} {e : Value}
theorem Cx.Ok.suite (ok : X.Ok) (e : Value) : (X.suite e).Ok :=
  ⟨ok.mod, ok.kind, ok.glob, ok.blt, ok.above, ok.inj, ok.has, ok.cab, (fun z => Bool.noConfusion z), ok.frames, ok.stk, ok.exf, ok.bs, ok.bsz, ok.noex, ok.exfs, ok.funs, ok.frf⟩
theorem Inv.suite (I : Inv X pins σ H s) (e : Value) : Inv (X.suite e) pins σ H s := ⟨I.ok.suite e, I.os, I.bare, I.base, I.loc, I.cell, I.free, I.freeC, I.pin, I.hok, I.len⟩
end
section
variable {X : Cx} {cls : Value} {x : Str} {C : Addr} {np hpos : Pos} {b₀ : Stmt} {suite : List Stmt} {rest : List ExceptHandler} {t : TS}
def PH (X : Cx) (hs : List ExceptHandler) (cls : Value) (t : TS) : Prop := ∀ (pins : List (Addr × Obj)) (s : Shared) (σ : St) (H : Hp) (D : Ends) (ea T : Addr), Inv X pins σ H s → FpX X pins H ea → Thr s.heap ea T cls → t D σ H → wpAny (model X.prog X.w) X.A (handleBy (.ref ea) X.env hs) (SP X pins D) X.xe s
end
end L2

/-! ### E28: try: .. except ..: -/
namespace L2
open PySem PySem.Spec PyProof.Rows
section
variable {X : Cx} {pins pn : List (Addr × Obj)} {xe : Value → Shared → Prop} {σ : St} {H : Hp} {s : Shared}
end
def tryO (gb : SS → Option Out) (gh : Nat → SS → Option Out) : SS → Option Out := fun δ => (gb δ).bind fun o => match o with
  | .nx δ' => some (.nx δ')
  | .ct δ' => some (.ct δ')
  | .bk δ' => some (.bk δ')
  | .rt d => some (.rt d)
  | .rb d δ' => some (.rb d δ')
  | .ex c δ' => gh c δ'
section
variable {X : Cx} {H0 : Hp} {B0 : Addr → Prop} {fr : Bool} {RX : XR} {cl : Nat → Value} {body : List Stmt} {h₀ : ExceptHandler} {hs : List ExceptHandler} {pos : Pos}
end
end L2

/-! ### E29: x = y, where y owns its list and is not read again ahead of its next assignment -/
namespace L2
open PySem PySem.Spec PyProof.Rows
section
variable {K : PySem.W.Frag} {H0 H : Hp} {B0 : Addr → Prop} {σ : St} {δ : SS} {R : Nat → List Addr}
def movS (i j : Nat) (d : D) (δ : SS) : SS := ((dropBs j δ).set j none).set i (some (.ow d))
end
section
variable {X : Cx} {H0 : Hp} {B0 : Addr → Prop} {fr : Bool} {RX : XR} {pos : Pos} {st : Stmt}
def movO (i j : Nat) : SS → Option Out := fun δ => match δ[j]? with
  | some (some (.ow d)) => some (.nx (movS i j d δ))
  | _ => none
end
end L2

/-! ### E30: for x in reversed(xs), xs a list; a def that is never come to -/
namespace L2
open PySem PySem.Spec PyProof.Rows
section
variable {X : Cx}
end
def revS : D → Option (List D)
  | .lst ds => some ds.reverse
  | _ => none
def dRevS (f : DE) : DS → Option (List D) := fun δ => (f δ).bind revS
section
variable {X : Cx}
end
end L2

/-! ### E31: loops that only look: for x in xs: if ..: return .. (xs may be owned, and stays so) -/
namespace L2
open PySem PySem.Spec PyProof.Rows
def chkIf (fc : DS → Option Bool) (fe : DE) : DS → Option (Option D) := fun δ => (fc δ).bind fun b => if b = true then (fe δ).bind fun d => if d.imm = true then some (some d) else none else some none
def chkSeq (f g : DS → Option (Option D)) : DS → Option (Option D) := fun δ => (f δ).bind fun o => match o with
  | none => g δ
  | some d => some (some d)
section
variable {X : Cx} {c e : Expr} {fc : DS → Option Bool} {fe : DE} {f g : DS → Option (Option D)} {st : Stmt} {sts : List Stmt} {p1 pos : Pos}
end
def chkD (i : Nat) (fb : DS → Option (Option D)) : List D → SS → Option Out
  | [], δ => some (.nx δ)
  | x :: r, δ => (fb (allV (δ.set i (some (.sh x))))).bind fun o => match o with
    | none => chkD i fb r (δ.set i (some (.sh x)))
    | some d => if d.imm = true then some (.rt d) else none
def forC (i : Nat) (fi : DS → Option (List D)) (fb : DS → Option (Option D)) : SS → Option Out := fun δ => (fi (allV δ)).bind fun ds => if imms ds = true then chkD i fb ds δ else none
section
variable {X : Cx} {H0 : Hp} {B0 : Addr → Prop} {fr : Bool} {RX : XR} {pos : Pos}
end
end L2

/-! ### E32: classes of the program under ValueError -/
namespace L2
open PySem PySem.Spec PyProof.Rows
section
variable {X : Cx} {x : Str} {C : Addr} {np cpos pos : Pos} {e₀ : Expr} {H0 : Hp} {B0 : Addr → Prop} {fr : Bool} {RX : XR}
end
end L2

/-! ### E33: a call that may raise, where it does not -/
namespace L2
open PySem PySem.Spec PyProof.Rows
def valO : Option XO → Option D
  | some (.val d) => some d
  | _ => none
def dCallV (m : List D → Option XO) (fl : List DE) : DE := fun δ => valO (dCallX m fl δ)
section
variable {X : Cx} {k : Nat} {cl : Nat → Value} {x : Str} {p pos : Pos} {e : Expr} {es : List Expr}
end
end L2

/-! ### E34: except C as e; isinstance(e, C) -/
namespace L2
open PySem PySem.Spec PyProof.Rows
section
variable {X : Cx} {pins : List (Addr × Obj)} {σ : St} {H : Hp} {s : Shared}
end
section
variable {X : Cx} {x n : Str} {C Ca : Addr} {np hpos : Pos} {b₀ : Stmt} {suite : List Stmt} {rest : List ExceptHandler} {t : TS} {i : Nat}
end
section
variable {K : PySem.W.Frag} {H0 H : Hp} {B0 : Addr → Prop} {σ : St} {δ : SS} {R : Nat → List Addr}
def unO (i : Nat) : Out → Option Out
  | .nx δ => some (.nx (δ.set i none))
  | .bk δ => some (.bk (δ.set i none))
  | .ct δ => some (.ct (δ.set i none))
  | .rt d => some (.rt d)
  | .rb d δ => some (.rb d (δ.set i none))
  | .ex _ _ => none
def asXO (i : Nat) (x : Str) (g : SS → Option Out) : SS → Option Out := fun δ => (g (δ.set i (some (.sh (.exc x))))).bind (unO i)
theorem PH.imp {X : Cx} {hs : List ExceptHandler} {cls : Value} {t t' : TS} (h : PH X hs cls t) (w : ∀ D σ H, t' D σ H → t D σ H) : PH X hs cls t' := fun pins s σ H D ea T I fe th q => h pins s σ H D ea T I fe th (w D σ H q)
end
/-! isinstance(e, C) -/
section
variable {X : Cx} {e : Expr} {f : DE} {y : Str} {p p2 pos : Pos} {L N : List Str}
end
section
variable {X : Cx} {H0 : Hp} {B0 : Addr → Prop} {fr : Bool} {RX : XR} {x n xn : Str} {C Ca : Addr} {np hpos : Pos} {b₀ : Stmt} {suite : List Stmt} {rest : List ExceptHandler} {g : SS → Option Out} {i : Nat}
end
end L2

/-! ### E35: a list of new things; return [x, y] -/
namespace L2
open PySem PySem.Spec PyProof.Rows
def tNs (K : PySem.W.Frag) (f : DS → Option (List D)) : TA := fun σ H Q => ∃ δ ds, RepS K H noB σ δ ∧ f δ = some ds ∧ ∀ vs H' A, Same H H' → Trees K H' ds vs A → A.Nodup → (∀ a ∈ A, H a = none) → Q vs H'
abbrev PAN (X : Cx) (es : List Expr) (fl : List DE) : Prop := PA X es (tNs X.K (dArgs fl))
theorem Trees.len {K : PySem.W.Frag} {H : Hp} : ∀ {ds : List D} {xs : List V} {A : List Addr}, Trees K H ds xs A → ds.length = xs.length
  | [], _, _, h => by unfold Trees at h; rw [h.1]; rfl
  | d :: ds, _, _, h => by
    unfold Trees at h
    obtain ⟨x, r, C, C', rfl, _, h2, _⟩ := h
    simp [Trees.len h2]
section
variable {X : Cx} {e : Expr} {es : List Expr} {pos : Pos}
theorem pan_nil : PAN X [] [] := pa_nil.imp fun σ H Q ⟨δ, ds, S, q, k⟩ => by
  cases q
  exact k [] H [] (.refl H) ⟨rfl, rfl⟩ List.nodup_nil (fun a z => nomatch z)
theorem pan_cons {f : DE} {fl : List DE} (ha : PN X e f) (hr : PAN X es fl) (hs : starEach (e :: es) X.env = (false, eval e X.env) :: starEach es X.env := by rfl) : PAN X (e :: es) (f :: fl) := (pa_cons ha hr hs).imp fun σ H Q ⟨δ, ds, S, q, k⟩ => by
  obtain ⟨x, xs, e1, e2, rfl⟩ := dArgs_some q
  refine ⟨δ, x, S, e1, fun v H1 A s1 t1 nd1 f1 => ⟨δ, xs, S.mono s1, e2, fun vs H2 C s2 t2 nd2 f2 => ?_⟩⟩
  refine k (v :: vs) H2 (A ++ C) (s1.trans s2) ?_ ?_ fun a ha => ?_
  · unfold Trees
    exact ⟨v, vs, A, C, rfl, t1.mono s2, t2, rfl⟩
  · refine List.nodup_append.mpr ⟨nd1, nd2, fun a ha b hb z => ?_⟩
    subst z
    obtain ⟨o, q', _⟩ := t1.held x a ha
    rw [f2 a hb] at q'; cases q'
  · rcases List.mem_append.mp ha with z | z
    · exact f1 a z
    · exact s1.free (f2 a z)
theorem pn_list {fl : List DE} (h : PAN X es fl) (hl : fl.length ≤ 1000 := by decide) : PN X (.List es pos) (mkL (dArgs fl)) := (pe_lst h).imp fun σ H Q ⟨δ, d, S, q, k⟩ => by
  unfold mkL at q
  cases r : dArgs fl δ with
  | none => rw [r] at q; cases q
  | some ds =>
    rw [r] at q
    cases q
    refine ⟨δ, ds, S, r, fun vs H1 A s1 t1 nd fa => ⟨?_, fun p hp => ?_⟩⟩
    · rw [← t1.len, dArgs_length r]
      exact Nat.le_of_lt (small1000 hl)
    · have sp := same_upd (o := .lst vs) hp
      refine k (.ref p) _ (p :: A) (s1.trans sp) ?_ (List.nodup_cons.mpr ⟨fun z => ?_, nd⟩) fun a ha => ?_
      · unfold Tree
        exact ⟨p, vs, A, rfl, upd_same, t1.mono sp, rfl⟩
      · obtain ⟨o, q', _⟩ := Trees.held ds t1 p z
        rw [hp] at q'; cases q'
      · rcases List.mem_cons.mp ha with z | z
        · rw [z]; exact s1.free hp
        · exact fa a z
variable {H0 : Hp} {B0 : Addr → Prop} {RX : XR} {a b : Expr} {pos' : Pos}
def ownV (δ : SS) (i : Nat) : Option D := match δ[i]? with
  | some (some (.ow d)) => some d
  | some (some (.sh d)) => if d.imm = true then some d else none
  | _ => none
def ret2 (i j : Nat) : SS → Option Out := fun δ => match ownV δ i, ownV δ j with
  | some d, some e => some (.rt (.lst [d, e]))
  | _, _ => none
end
end L2

/-! ### E36: f(new thing, ..), where f takes its first argument over -/
namespace L2
open PySem PySem.Spec PyProof.Rows
def dCallM (F : List D → Option D) (f0 : DE) (fl : List DE) : DE := fun δ => (f0 δ).bind fun d0 => (dArgs fl δ).bind fun args => if imms args = true then F (d0 :: args) else none
section
variable {X : Cx} {k : Nat} {x : Str} {p pos : Pos} {e : Expr} {es : List Expr}
end
end L2

/-! ### E37: a list times an int; f(..)[i], where f may raise -/
namespace L2
open PySem PySem.Spec PyProof.Rows
def repLs : D → D → Option (List D)
  | .lst ds, .int k => if (0 ≤ k ∧ k ≤ 1000000) ∧ ds.length * k.toNat ≤ sizeLine then some (List.replicate k.toNat ds).flatten else none
  | _, _ => none
def dRep (f g : DE) : DS → Option (List D) := fun δ => (f δ).bind fun x => (g δ).bind fun y => repLs x y
theorem Reps.rep {K : PySem.W.Frag} {H : Hp} {B : Addr → Prop} {ds : List D} {xs : List V} (h : Reps K H B ds xs) : ∀ n : Nat, Reps K H B (List.replicate n ds).flatten (List.replicate n xs).flatten
  | 0 => (show Reps K H B [] [] by unfold Reps; rfl)
  | n + 1 => by
    rw [List.replicate_succ, List.replicate_succ, List.flatten_cons, List.flatten_cons]
    exact h.append (Reps.rep h n)
def dIxX (F : DS → Option XO) (g : DE) : DS → Option XO := fun δ => match F δ with
  | some (.val d) => (g δ).bind fun y => (ixD d y).bind fun z => if z.imm = true then some (.val z) else none
  | some (.exc c) => some (.exc c)
  | none => none
section
variable {X : Cx} {a b : Expr} {pos : Pos} {f g : DE} {RX : XR}
end
end L2

/-! ### E38: sorted of a dict -/
namespace PySem
open Sem (wp)
section
variable {K : Type} [DecidableEq K] {prog : Program} {w : World} {knd : KeyKind prog w K} {A : Around} {E : Value → Shared → Prop} {s : Shared}
end
end PySem

/-! ### E39: sorted of a dict, by trees -/
namespace L2
open PySem PySem.Spec PyProof.Rows
section
variable {prog : Program} {w : World} {A : Around} {E : Value → Shared → Prop} {s : Shared}
end
section
variable {X : Cx}
variable {e : Expr} {f : DE} {p pos : Pos}
end
end L2

/-! ### E40: {k: v} of ints; range(a, b, -1); f(..)[i] of new lists -/
namespace L2
open PySem PySem.Spec PyProof.Rows
def mkD1 : D → D → Option D
  | .int a, .int b => some (.dct [.inl a] [.int b])
  | _, _ => none
def dDisp1 (fk fv : DE) : DE := d2 mkD1 fk fv
section
variable {X : Cx} {ke ve : Expr} {pos : Pos} {f g : DE}
end
section
variable {X : Cx} {tg : Expr}
def rngN : Option D → Option D → Option D → Option (List D)
  | some (.int i), some (.int j), some (.int c) => if c = -1 ∧ -(2 ^ 61) ≤ i ∧ i < 2 ^ 61 ∧ -(2 ^ 61) ≤ j ∧ j < 2 ^ 61 then some (rngC i (-1) (i - j).toNat) else none
  | _, _, _ => none
def dRngN (f g h : DE) : DS → Option (List D) := fun δ => rngN (f δ) (g δ) (h δ)
end
theorem Trees.at {K : PySem.W.Frag} {H : Hp} : ∀ {ds : List D} {xs : List V} {A : List Addr} {k : Nat} {d : D}, Trees K H ds xs A → A.Nodup → ds[k]? = some d → ∃ v C, xs[k]? = some v ∧ Tree K H d v C ∧ C.Nodup ∧ ∀ a ∈ C, a ∈ A
  | [], _, _, _, _, _, _, e => by cases e
  | d :: ds, xs, A, k, d', h, nd, e => by
    unfold Trees at h
    obtain ⟨x, r, C, C', rfl, h1, h2, rfl⟩ := h
    have n2 := List.nodup_append.mp nd
    cases k with
    | zero => cases e; exact ⟨x, C, rfl, h1, n2.1, fun a ha => List.mem_append.mpr (.inl ha)⟩
    | succ k =>
      obtain ⟨v, D', e1, t1, nd1, sb⟩ := Trees.at (k := k) h2 n2.2.1 (by simpa using e)
      exact ⟨v, D', by simpa using e1, t1, nd1, fun a ha => List.mem_append.mpr (.inr (sb a ha))⟩
def ixL : D → D → Option D
  | .lst ds, .int i => atI ds i
  | _, _ => none
section
variable {X : Cx} {a b : Expr} {pos : Pos} {f g : DE}
end
end L2

/-! ### E41: for x, y in enumerate(xs) -/
namespace L2
open PySem PySem.Spec PyProof.Rows
def twoD : D → Option (D × D)
  | .tup [a, b] => some (a, b)
  | _ => none
def forD2 (i j : Nat) (b : SS → Option Out) : List D → SS → Option Out
  | [], δ => some (.nx δ)
  | d :: r, δ => (twoD d).bind fun z => (b ((δ.set i (some (.sh z.1))).set j (some (.sh z.2)))).bind fun o => match o with
    | .nx δ' => forD2 i j b r δ'
    | .ct δ' => forD2 i j b r δ'
    | .bk δ' => some (.nx δ')
    | .rt d => some (.rt d)
    | .rb d δ' => some (.rb d δ')
    | .ex c δ' => some (.ex c δ')
def forO2 (i j : Nat) (f : DS → Option (List D)) (g : SS → Option Out) : SS → Option Out := fun δ => (f (shV δ)).bind fun ds => forD2 i j g ds δ
section
variable {X : Cx} {H0 : Hp} {B0 : Addr → Prop} {fr : Bool} {RX : XR} {pos : Pos}
end
end L2

/-! ### E42: min of a list of ints -/
namespace L2
open PySem PySem.Spec PyProof.Rows
section
variable {X : Cx}
variable {e : Expr} {f : DE} {p pos : Pos}
end
end L2

/-! ### E43: xs[a::k] -/
namespace L2
open PySem PySem.Spec PyProof.Rows
def stepIx (n : Nat) (lo st : Int) : List Nat := sliceRange (min lo n) n st
def stepLs : D → D → D → Option (List D)
  | .lst ds, .int lo, .int st => if 0 ≤ lo ∧ 0 < st then some ((stepIx ds.length lo st).filterMap (ds[·]?)) else none
  | .scr ns, .int lo, .int st => if 0 ≤ lo ∧ 0 < st then some ((stepIx ns.length lo st).filterMap ((ns.map D.int)[·]?)) else none
  | _, _, _ => none
def dStep (f g h : DE) : DS → Option (List D) := fun δ => (f δ).bind fun x => (g δ).bind fun y => (h δ).bind fun z => stepLs x y z
section
variable {X : Cx} {e lo st : Expr} {te : TE} {tl tk : TO} {pos p2 : Pos}
variable {f g h : DE}
end
end L2

/-! ### E44: products of greater numbers -/
namespace L2
open PySem PySem.Spec PyProof.Rows
def bigL : Nat := 2 ^ 250
def CMulB (i j : Int) : Prop := i.natAbs < bigL ∧ j.natAbs < bigL
instance {i j : Int} : Decidable (CMulB i j) := by unfold CMulB; infer_instance
theorem CMulB.ok {i j : Int} (h : CMulB i j) : IntMulOk i j := by
  have h1 : Builtin.Int.intBits i ≤ 250 := intBits_le h.1
  have h2 : Builtin.Int.intBits j ≤ 250 := intBits_le h.2
  have h3 : Builtin.Int.intTooBig ((Builtin.Int.intBits i : Int) + (Builtin.Int.intBits j : Int)) = false := by
    unfold Builtin.Int.intTooBig
    apply decide_eq_false
    have hb : (2000 : Int) ≤ bitsLine := by decide
    omega
  unfold IntMulOk
  rw [h3]
  simp
section
variable {X : Cx} {a b : Expr} {pos : Pos} {f g : DE}
end
end L2

/-! ### E45: for x in range(..), the bounds read from anything; return [x, y, z] -/
namespace L2
open PySem PySem.Spec PyProof.Rows
section
variable {X : Cx} {tg iter a b : Expr} {p pos pos' : Pos}
structure ItF (J : It) (lo : Int) (n : Nat) : Prop where
  go : ∀ i H', i < n → J.go i H'
  stop : ∀ i H', n ≤ i → J.stop i H'
  yld : ∀ i H' x H2, J.yld i H' x H2 → Same H' H2 ∧ x = .int (lo + (i : Int))
def dIv1 (f : DE) : DS → Option (Int × Nat) := fun δ => match f δ with
  | some (.int j) => if -(2 ^ 62) ≤ j ∧ j < 2 ^ 62 then some (0, j.toNat) else none
  | _ => none
def dIv2 (f g : DE) : DS → Option (Int × Nat) := fun δ => match f δ, g δ with
  | some (.int i), some (.int j) => if -(2 ^ 62) ≤ i ∧ i < 2 ^ 62 ∧ -(2 ^ 62) ≤ j ∧ j < 2 ^ 62 then some (i, (j - i).toNat) else none
  | _, _ => none
def forI (i : Nat) (f : DS → Option (Int × Nat)) (b : SS → Option Out) : SS → Option Out := fun δ => (f (allV δ)).bind fun z => forD i b (rngL z.1 z.2) δ
variable {H0 : Hp} {B0 : Addr → Prop} {fr : Bool} {RX : XR}
/-! return [x, y, z] -/
def ret3 (i j l : Nat) : SS → Option Out := fun δ => match ownV δ i, ownV δ j, ownV δ l with
  | some d, some e, some f => some (.rt (.lst [d, e, f]))
  | _, _, _ => none
variable {c : Expr}
end
end L2

/-! ### E46: new lists of new things put together -/
namespace L2
open PySem PySem.Spec PyProof.Rows
theorem Trees.cat {K : PySem.W.Frag} {H : Hp} : ∀ {ds es : List D} {vs ws : List V} {A C : List Addr}, Trees K H ds vs A → Trees K H es ws C → Trees K H (ds ++ es) (vs ++ ws) (A ++ C)
  | [], es, vs, ws, A, C, h, h' => by
    unfold Trees at h
    rw [h.1, h.2]
    exact h'
  | d :: ds, es, vs, ws, A, C, h, h' => by
    unfold Trees at h
    obtain ⟨x, r, A1, A2, rfl, t1, t2, rfl⟩ := h
    have ih := Trees.cat t2 h'
    show Trees K H (d :: (ds ++ es)) (x :: (r ++ ws)) ((A1 ++ A2) ++ C)
    unfold Trees
    exact ⟨x, r ++ ws, A1, A2 ++ C, rfl, t1, ih, by rw [List.append_assoc]⟩
section
variable {X : Cx} {a b : Expr} {pos : Pos} {f g : DE}
end
end L2

/-! ### E47: t[lo:hi] of a tuple, also the whole of it; max of a list of ints -/
namespace HT
open PySem PySem.Spec PyProof.Rows
section
variable {prog : Program} {w : World} {A : Around} {E : Value → Shared → Prop} {s : Shared}
theorem getItem_tuple_whole {t sl : Addr} {items : Array Value} {vl vu : Value} {lo hi : Option Int} {Q : Value → Shared → Prop} (ht : IsTup s.heap t items) (hs : s.heap.IsSliceOf sl vl vu .none) (pl : IsPart vl lo) (pu : IsPart vu hi)
    (hw : sIx items.size 0 lo = 0 ∧ sIx items.size items.size hi = items.size)
    (h : Q (.ref t) s) : wpAny (model prog w) A (getItem (.ref t) (.ref sl)) Q E s := by
  obtain ⟨os, hos, hcs, hds⟩ := id hs
  have hTs : s.TypeIs (.ref sl) "slice" := ⟨os, hos, hcs⟩
  unfold getItem
  try with_reducible refine wpAny_holding ?_
  first | refine wpAny_bind (wpAny_pure ?_) | skip
  refine wpAny_bind (wpAny_sequenceKey ht.typeIs (by decide) ?_)
  refine wpAny_bind (wpAny_callSpecial?_slot (name := Str.ofString "__getitem__") ht.typeIs PyProof.Rows.slot_tuple_getitem
    (wpAny_call_entry PyProof.Rows.slot_tuple_getitem ht.typeIs entry_tuple_getitem ?_ (args_tuple_getitem _ _)))
  show wpAny _ _ (Builtin.Tuple.tupleItemsOf (.ref t) >>= _) _ _ s
  refine wpAny_bind (tupleItemsOf_ ht ?_)
  refine wpAny_bind (wpAny_typeOf hTs ?_)
  rw [if_pos (by decide)]
  refine wpAny_bind (sliceApplied_gen hs pl pu ?_)
  have hyes : (((sIx items.size 0 lo : Nat) : Int) == 0 && (1 : Int) == 1 && (sIx items.size items.size hi - sIx items.size 0 lo) == items.size) = true := by
    rw [hw.1, hw.2]
    simp
  show wpAny _ _ (if (((sIx items.size 0 lo : Nat) : Int) == 0 && (1 : Int) == 1 && (sIx items.size items.size hi - sIx items.size 0 lo) == items.size) = true then _ else _) _ _ s
  rw [if_pos hyes]
  refine wpAny_bind (m := Builtin.Tuple.tupleIsExact _) ?_
  unfold Builtin.Tuple.tupleIsExact
  refine wpAny_bind (wpAny_typeOf ht.typeIs ?_)
  refine wpAny_pure ?_
  rw [if_pos (by decide)]
  refine wpAny_bind (wpAny_rule ?_)
  exact wpAny_pure ⟨_, rfl, wpAny_pure h⟩
end
end HT
namespace L2
open PySem PySem.Spec PyProof.Rows
section
variable {X : Cx} {e a b : Expr} {lo hi : Option Expr} {p p2 pos : Pos}
def rSlW (K : PySem.W.Frag) : V → Option Int → Option Int → Hp → VK → Prop := fun x lo hi H Q => ∃ a xs, x = .ref a ∧ SqT K H a xs ∧
  ((HT.sIx xs.length 0 lo = 0 ∧ HT.sIx xs.length xs.length hi = xs.length) → Q (.ref a) H) ∧ (¬ (HT.sIx xs.length 0 lo = 0 ∧ HT.sIx xs.length xs.length hi = xs.length) → ∀ p, H p = none → Q (.ref p) (upd H p (.tup (cutV xs lo hi))))
theorem sl_tupW : SlR X (rSlW X.K) := by
  intro pins s σ H x v vl vu lo hi sl Q I rx hs pl pu h
  obtain ⟨a, xs, rfl, hx, q1, q2⟩ := h
  cases rx
  obtain ⟨its, r, ht, hz⟩ := I.tuple hx
  have hlen : its.toArray.size = xs.length := by rw [List.size_toArray]; exact r.length.symm
  by_cases hw : HT.sIx xs.length 0 lo = 0 ∧ HT.sIx xs.length xs.length hi = xs.length
  · refine ⟨"tuple", _, PyProof.Rows.slot_tuple_getitem.lookup, ht.typeIs, ?_⟩
    exact HT.getItem_tuple_whole ht hs pl pu (by rw [hlen]; exact hw) ⟨.ref a, H, I, rfl, q1 hw⟩
  · refine ⟨"tuple", _, PyProof.Rows.slot_tuple_getitem.lookup, ht.typeIs, ?_⟩
    refine HT.getItem_tuple_cut ht hs pl pu (by rw [hlen]; exact hw) ?_ (by rw [hlen]; exact hz)
    rw [hlen]
    refine ⟨.ref s.heap.objs.size, _, I.laid (t' := s.toks) (o := .tup (cutV xs lo hi)) (fun b ob q => Heap.get?_push_of_some _ q) (Nat.le_refl _) ?_, rfl, q2 hw _ (I.hok.fresh (Nat.le_refl _))⟩
    exact ⟨Nat.le_trans (cutV_length xs lo hi) hz, _, (r.drop (HT.sIx xs.length 0 lo)).take (HT.sIx xs.length xs.length hi - HT.sIx xs.length 0 lo), TupN.new _ _⟩
def dCutT (f : DE) (fl fh : DS → Option (Option Int)) : DE := fun δ => match f δ with
  | some (.tup ds) => (fl δ).bind fun lo => (fh δ).map fun hi => .tup (cutL ds lo hi)
  | _ => none
theorem pd_sliceT {f : DE} {fl fh : DS → Option (Option Int)} (he : PD X e f) (hl : POD X lo fl) (hh : POD X hi fh) : PD X (.Subscript e (.Slice lo hi none p2) pos) (dCutT f fl fh) := (pe_slice sl_tupW he hl hh).imp fun σ H Q ⟨B, δ, d', hB, S, q, k⟩ => by
  unfold dCutT at q
  split at q
  · rename_i ds e1
    cases e2 : fl δ with
    | none => rw [e2] at q; cases q
    | some l =>
    cases e3 : fh δ with
    | none => rw [e2, e3] at q; cases q
    | some u =>
    rw [e2, e3] at q
    cases q
    refine ⟨B, δ, _, hB, S, e1, fun v H1 s1 r1 => ⟨B, δ, l, hB.mono s1, S.mono s1, e2, fun H2 s2 => ⟨B, δ, u, (hB.mono s1).mono s2, (S.mono s1).mono s2, e3, fun H3 s3 => ?_⟩⟩⟩
    unfold Rep at r1
    obtain ⟨a, xs, rfl, hq, rs⟩ := r1
    have hlen := rs.length
    refine ⟨a, xs, rfl, (s2.trans s3).tup hq, fun hw => ?_, fun hw p hp => ?_⟩
    · refine k _ _ ((s1.trans s2).trans s3) ?_
      have ec : cutL ds l u = ds := by
        unfold cutL
        rw [← hlen] at hw
        rw [hw.1, hw.2, List.drop_zero, Nat.sub_zero, List.take_length]
      show Rep X.K H3 B (.tup (cutL ds l u)) _
      rw [ec]
      unfold Rep
      exact ⟨a, xs, rfl, (s2.trans s3).tup hq, rs.mono (s2.trans s3)⟩
    · have sa := same_upd (o := .tup (cutV xs l u)) hp
      refine k _ _ (((s1.trans s2).trans s3).trans sa) ?_
      show Rep X.K _ B (.tup (cutL ds l u)) _
      unfold Rep
      have rc : Reps X.K H1 B (cutL ds l u) (cutV xs l u) := by
        unfold cutV cutL
        rw [← hlen]
        exact (rs.drop _).take _
      exact ⟨p, cutV xs l u, rfl, SqT.of upd_same, (rc.mono (s2.trans s3)).mono sa⟩
  · cases q
/-! max of a list -/
variable {f : DE}
end
end L2

/-! ### E48: the tables of sets: their places rise as long as they are plain -/
namespace PySem
namespace SetTable
def Up (xs : Array Nat) : Prop := xs.toList.Pairwise (· < ·)
end SetTable
/-- what is known of a set's table -/
def TI (t : SetTable) : Prop := t.led = true ∧ (t.plain = true → SetTable.Up t.place)
end PySem

/-! ### E49: set(xs) of ints, with what is known of its table -/
namespace PySem
section
variable {prog : Program} {w : World} {K : Type} [DecidableEq K] (knd : KeyKind prog w K)
variable {knd} {A : Around} {E : Value → Shared → Prop} {s : Shared}
end
section
variable {prog : Program} {w : World} {A : Around} {R : Result → Shared → Prop} {I : Addr} {fp wr : List Addr} {G : Array GenState → Array GenState → Prop} {n : Nat} {P : Nat → Value → Prop} {St : Nat → Shared → Prop}
open PyProof.Rows in
end
end PySem

/-! ### E50: set(xs), the call -/
namespace PySem
section
variable {prog : Program} {w : World} {A : Around} {E : Value → Shared → Prop} {s : Shared}
open PyProof.Rows in
set_option maxHeartbeats 3200000 in
open PyProof.Rows in
end
end PySem

/-! ### E51: going through a set -/
namespace PySem
section
variable {M : Model} {A : Around} {E : Value → Shared → Prop} {s : Shared}
end
section
variable {prog : Program} {w : World} {A : Around} {E : Value → Shared → Prop} {s : Shared}
end
end PySem

/-! ### E52: a set's iterator -/
namespace PySem
def Heap.SIt (g : Heap) (I a : Addr) (first : Value) (i n ep : Nat) : Prop := ∃ ob, g.get? I = some ob ∧ ob.cls = .type "set_iterator" ∧ ob.data = .fields #[first, .int i 0, .ref a, .int n 0, .int ep 0]
section
variable {prog : Program} {w : World} {A : Around} {E : Value → Shared → Prop} {s : Shared}
end
end PySem

/-! ### E53: collect of a set of ints -/
namespace PySem
section
variable {prog : Program} {w : World} {A : Around} {E : Value → Shared → Prop} {s : Shared}
end
end PySem

/-! ### E54: collect of a set -/
namespace PySem
open Sem (wp)
section
variable {K : Type} [DecidableEq K] {prog : Program} {w : World} {knd : KeyKind prog w K} {A : Around} {E : Value → Shared → Prop} {s : Shared}
end
end PySem

/-! ### E55: sorted(set(xs)), xs a list of ints -/
namespace L2
open PySem PySem.Spec PyProof.Rows
def ddI (ns : List Int) : List Int := ns.foldl (fun acc n => if acc.any (· == n) then acc else acc ++ [n]) []
section
variable {prog : Program} {w : World} {A : Around} {E : Value → Shared → Prop} {s : Shared}
end
section
variable {X : Cx} {e : Expr} {te : TE} {p p' pos pos' : Pos}
def sortSF : D → Option (List D)
  | .lst ds => (ints' ds).bind fun ns => if ns.length ≤ 1000 ∧ (ddI ns).length < 64 then some ((srtI (ddI ns)).map .int) else none
  | _ => none
def dSortS (f : DE) : DS → Option (List D) := fun δ => (f δ).bind sortSF
variable {f : DE}
end
end L2

/-! ### E56: lists put together, the script among them -/
namespace L2
open PySem PySem.Spec PyProof.Rows
section
variable {X : Cx} {a b : Expr} {pos : Pos} {f g : DE}
def seqL : D → Option (List D)
  | .lst ds => some ds
  | .scr ns => some (ns.map .int)
  | _ => none
def catSs : D → D → Option (List D) := fun x y => (seqL x).bind fun ds => (seqL y).bind fun es => if ds.length + es.length ≤ sizeLine then some (ds ++ es) else none
def dCatS (f g : DE) : DS → Option (List D) := fun δ => (f δ).bind fun x => (g δ).bind fun y => catSs x y
end
end L2

/-! ### E57: isinstance(x, str) -/
namespace L2
open PySem PySem.Spec PyProof.Rows
section
variable {X : Cx} {e : Expr} {p p2 pos : Pos}
end
end L2

/-! ### E58: len(set(xs)), xs a list of ints -/
namespace L2
open PySem PySem.Spec PyProof.Rows
section
variable {X : Cx} {e : Expr} {te : TE} {p p' pos pos' : Pos}
variable {f : DE}
end
end L2

/-! ### E59: tuples put together -/
namespace L2
open PySem PySem.Spec PyProof.Rows
section
variable {X : Cx} {a b : Expr} {pos : Pos} {f g : DE}
def rCatU (K : PySem.W.Frag) : R2 := fun x y H Q => ∃ l b xs zs, x = .ref l ∧ y = .ref b ∧ SqT K H l xs ∧ SqT K H b zs ∧ xs.length + zs.length ≤ sizeLine ∧ (xs = [] → Q (.ref b) H) ∧ (xs ≠ [] → zs = [] → Q (.ref l) H) ∧ (xs ≠ [] → zs ≠ [] → ∀ p, H p = none → Q (.ref p) (upd H p (.tup (xs ++ zs))))
theorem op_catU : OpR X (binaryOp .Add) (rCatU X.K) := by
  intro pins s σ H x y v u Q I rx ry h
  obtain ⟨l, b, xs, zs, rfl, rfl, hH, hB, hz, q0, q1, q2⟩ := h
  cases rx
  cases ry
  obtain ⟨its, o1, n1, r, e1, c1, d1, g1, z1⟩ := I.tupleO hH
  obtain ⟨its2, o2, n2, r2, e2, c2, d2, g2, z2⟩ := I.tupleO hB
  have hl := r.length
  have hl2 := r2.length
  obtain ⟨cls, dd, data, sl⟩ := o1
  obtain ⟨cls2, dd2, data2, sl2⟩ := o2
  simp only at c1 d1 g1 c2 d2 g2
  subst c1 d1 g1 c2 d2 g2
  by_cases h1 : xs = []
  · refine concat_meets ⟨_, e1, rfl⟩ ⟨_, e2, rfl⟩ noFill_tuple_add seq_tuple_add PySem.F.slot_tuple_add PySem.F.entry_tuple_add (PySem.F.args_tuple_add_2 _ _) (tuple_addW0 l b its.toArray its2.toArray n1 n2 none none sl sl2 ?_) ⟨e1, e2, ?_⟩
    · rw [h1] at hl
      have : its = [] := List.length_eq_zero_iff.mp hl.symm
      rw [this]
      rfl
    · exact ⟨.ref b, H, I, rfl, q0 h1⟩
  · have hi1 : ¬ its.toArray.isEmpty = true := fun z => h1 (by
      have : its = [] := by simpa using z
      rw [this] at hl
      exact List.length_eq_zero_iff.mp hl)
    by_cases h2 : zs = []
    · refine concat_meets ⟨_, e1, rfl⟩ ⟨_, e2, rfl⟩ noFill_tuple_add seq_tuple_add PySem.F.slot_tuple_add PySem.F.entry_tuple_add (PySem.F.args_tuple_add_2 _ _) (tuple_addW1 l b its.toArray its2.toArray n1 n2 none none sl sl2 hi1 ?_) ⟨e1, e2, ?_⟩
      · rw [h2] at hl2
        have : its2 = [] := List.length_eq_zero_iff.mp hl2.symm
        rw [this]
        rfl
      · exact ⟨.ref l, H, I, rfl, q1 h1 h2⟩
    · have hi2 : ¬ its2.toArray.isEmpty = true := fun z => h2 (by
        have : its2 = [] := by simpa using z
        rw [this] at hl2
        exact List.length_eq_zero_iff.mp hl2)
      refine concat_meets ⟨_, e1, rfl⟩ ⟨_, e2, rfl⟩ noFill_tuple_add seq_tuple_add PySem.F.slot_tuple_add PySem.F.entry_tuple_add (PySem.F.args_tuple_add_2 _ _) (tuple_addW2 l b its.toArray its2.toArray n1 n2 none none sl sl2 hi1 hi2 (by rw [List.size_toArray, List.size_toArray]; omega)) ⟨e1, e2, ?_⟩
      have ea : its.toArray ++ its2.toArray = (its ++ its2).toArray := by simp
      rw [ea]
      refine ⟨.ref s.heap.objs.size, _, I.laid (t' := s.toks) (o := .tup (xs ++ zs)) (fun b ob q => Heap.get?_push_of_some _ q) (Nat.le_refl _) ?_, rfl, q2 h1 h2 _ (I.hok.fresh (Nat.le_refl _))⟩
      exact ⟨by rw [List.length_append]; omega, _, r.append r2, TupN.new _ _⟩
def catT : D → D → Option D
  | .tup ds, .tup es => if ds.length + es.length ≤ sizeLine then some (.tup (ds ++ es)) else none
  | _, _ => none
theorem pd_catT (ha : PD X a f) (hb : PD X b g) : PD X (.BinOp a .Add b pos) (d2 catT f g) := (pe_op op_catU ha hb).imp fun σ H Q ⟨B, δ, d, hB, S, q, k⟩ => by
  obtain ⟨x, y, e1, e2, e3⟩ := d2_some q
  unfold catT at e3
  split at e3
  case h_2 => cases e3
  case h_1 ds es =>
  split at e3
  case isFalse => cases e3
  case isTrue hl =>
  cases e3
  refine ⟨B, δ, _, hB, S, e1, fun v H1 s1 r1 => ⟨B, δ, _, hB.mono s1, S.mono s1, e2, fun v2 H2 s2 r2 => ?_⟩⟩
  unfold Rep at r1 r2
  obtain ⟨p1, vs, rfl, h1, rs1⟩ := r1
  obtain ⟨p2, ws, rfl, h2, rs2⟩ := r2
  have l1 := rs1.length
  have l2 := rs2.length
  refine ⟨p1, p2, vs, ws, rfl, rfl, s2.tup h1, h2, by rw [← l1, ← l2]; exact hl, fun z => ?_, fun z1 z => ?_, fun z1 z2 p hp => ?_⟩
  · have hd : ds = [] := List.length_eq_zero_iff.mp (by rw [l1, z]; rfl)
    refine k _ _ (s1.trans s2) ?_
    rw [hd, List.nil_append]
    unfold Rep
    exact ⟨p2, ws, rfl, h2, rs2⟩
  · have he : es = [] := List.length_eq_zero_iff.mp (by rw [l2, z]; rfl)
    refine k _ _ (s1.trans s2) ?_
    rw [he, List.append_nil]
    unfold Rep
    exact ⟨p1, vs, rfl, s2.tup h1, rs1.mono s2⟩
  · have sp := same_upd (o := .tup (vs ++ ws)) hp
    refine k _ _ ((s1.trans s2).trans sp) ?_
    unfold Rep
    exact ⟨p, vs ++ ws, rfl, SqT.of upd_same, ((rs1.mono s2).append rs2).mono sp⟩
end
end L2

/-! ### E60: `if not f(..):` where f may raise -/
namespace L2
open PySem PySem.Spec PyProof.Rows
section
variable {X : Cx} {c : Expr} {a b : List Stmt} {p2 pos : Pos} {H0 : Hp} {B0 : Addr → Prop} {fr : Bool} {RX : XR} {F : DS → Option XO} {g h : SS → Option Out}
def ifNX (F : DS → Option XO) (g h : SS → Option Out) : SS → Option Out := fun δ => (F (allV δ)).bind fun o => match o with
  | .val (.bl k) => if k = true then h δ else g δ
  | .exc c => some (.ex c δ)
  | _ => none
end
end L2

/-! ### E61: C(e) of a class of the program under ValueError, as a new thing -/
namespace L2
open PySem PySem.Spec PyProof.Rows
section
variable {X : Cx} {x : Str} {C : Addr} {np cpos : Pos} {e₀ : Expr} {te : TE} {f : DE}
end
end L2

/-! ### E62: for x in f(..) where f may raise -/
namespace L2
open PySem PySem.Spec PyProof.Rows
section
variable {X : Cx} {pos : Pos} {H0 : Hp} {B0 : Addr → Prop} {fr : Bool} {RX : XR} {F : DS → Option XO}
def forXO (i : Nat) (F : DS → Option XO) (g : SS → Option Out) : SS → Option Out := fun δ => (F (allV δ)).bind fun o => match o with
  | .val (.lst ds) => forD i g ds δ
  | .exc c => some (.ex c δ)
  | _ => none
end
end L2

/-! ### E63: a def that takes over its second argument; return [x] -/
namespace L2
open PySem PySem.Spec PyProof.Rows
section
variable {P : Program} {w : World} {K : PySem.W.Frag} {mg : Str → Option Value} {base : Heap}
end
def dCallM2 (F : List D → Option D) (f0 f1 : DE) (fl : List DE) : DE := fun δ => (f0 δ).bind fun a => (f1 δ).bind fun b => (dArgs fl δ).bind fun cs => F (a :: b :: cs)
section
variable {X : Cx} {k : Nat} {x : Str} {p pos : Pos} {e e' : Expr} {es : List Expr}
variable {H0 : Hp} {B0 : Addr → Prop} {RX : XR} {a : Expr} {pos' : Pos}
def ret1 (i : Nat) : SS → Option Out := fun δ => (ownV δ i).map fun d => .rt (.lst [d])
end
end L2

/-! ### E64: x.append(y) where y owns its list and is not read again ahead of its next assignment; written lists of lists of ints -/
namespace L2
open PySem PySem.Spec PyProof.Rows
section
variable {K : PySem.W.Frag} {H0 H : Hp} {B0 : Addr → Prop} {σ : St} {δ : SS} {R : Nat → List Addr}
def givS (i j : Nat) (d : D) (δ : SS) : SS := ((dropBs i (dropBs j δ)).set j none).set i (some (.ow d))
end
section
variable {X : Cx} {H0 : Hp} {B0 : Addr → Prop} {fr : Bool} {RX : XR} {e : Expr} {pos ap cp : Pos} {x : Str} {px : Pos}
def appO (i j : Nat) : SS → Option Out := fun δ => match δ[j]?, δ[i]? with
  | some (some (.ow d)), some (some (.ow (.lst ds))) => (appF ds [d]).map fun ds' => .nx (givS i j (.lst ds') δ)
  | _, _ => none
end
/-! written lists of lists of ints -/
section
variable {X : Cx} {pos : Pos}
variable {H0 : Hp} {B0 : Addr → Prop} {fr : Bool} {RX : XR}
/-- a statement, a body: as PS and PSs, but never opened while terms are made (a written list is opened far too far) -/
@[irreducible] def PSb (X : Cx) (st : Stmt) (t : TS) : Prop := PS X st t
@[irreducible] def PSsb (X : Cx) (st : List Stmt) (t : TS) : Prop := PSs X st t
end
section
variable {P : Program} {w : World} {K : PySem.W.Frag} {mg : Str → Option Value} {base : Heap}
end
end L2

/-! ### E65: x[k].clear() -/
namespace L2
open PySem PySem.Spec PyProof.Rows
section
variable {X : Cx} {H0 : Hp} {B0 : Addr → Prop} {fr : Bool} {RX : XR} {x : Str} {px p2 ap cp pos : Pos} {ke : Expr} {fk : DE}
end
end L2

/-! ### E66: xs.extend(ys) of a shared ys whose items cannot change; written lists of tuples of ints -/
namespace L2
open PySem PySem.Spec PyProof.Rows
section
variable {X : Cx} {H0 : Hp} {B0 : Addr → Prop} {fr : Bool} {RX : XR} {e : Expr} {f : DE} {pos ap cp : Pos} {x : Str} {px : Pos}
def ext0D (i : Nat) (f : DE) : SS → Option Out := fun δ => (f (allV δ)).bind fun d => (match d, δ[i]? with
  | .lst es, some (some (.ow (.lst ds))) => if imms es = true ∧ ds.length + es.length ≤ sizeLine then some (.nx ((dropBs i δ).set i (some (.ow (.lst (ds ++ es)))))) else none
  | _, _ => none)
end
section
variable {X : Cx} {pos : Pos}
variable {H0 : Hp} {B0 : Addr → Prop} {fr : Bool} {RX : XR}
end
end L2

/-! ### E67: isinstance(e, (A, B)) of an exception -/
namespace L2
open PySem PySem.Spec PyProof.Rows
section
variable {X : Cx} {e : Expr} {f : DE} {y z : Str} {p p2 p3 p4 pos : Pos} {x1 : Nat} {L M1 M2 N : List Str}
end
end L2

/-! ### E68: xs.count(x); xs[k] = a new thing -/
namespace L2
open PySem PySem.Spec PyProof.Rows
section
variable {X : Cx} {o e : Expr} {apos cpos : Pos}
end
section
variable {X : Cx} {H0 : Hp} {B0 : Addr → Prop} {fr : Bool} {RX : XR} {e ke : Expr} {pos : Pos} {x : Str} {px p2 : Pos}
def st0N (i : Nat) (fk fv : DE) : SS → Option Out := fun δ => (fv (allV δ)).bind fun d => (fk (allV δ)).bind fun dk => (match dk, δ[i]? with
  | .int k, some (some (.ow (.lst ds))) => (ixN ds.length k).map fun j => .nx ((dropBs i δ).set i (some (.ow (.lst (ds.set j d)))))
  | _, _ => none)
end
end L2

/-! ### E69: loops that only look, over things that can change -/
namespace L2
open PySem PySem.Spec PyProof.Rows
theorem RepS.set {K : PySem.W.Frag} {H : Hp} {B : Addr → Prop} {σ : St} {δ : DS} {i : Nat} {d : D} {v : V} (h : RepS K H B (σ.set i (some v)) δ) (r : Rep K H B d v) (hi : i < σ.length) : RepS K H B (σ.set i (some v)) (δ.set i (some d)) := by
  refine ⟨by rw [List.length_set]; exact h.len, fun j d' q => ?_⟩
  by_cases hij : i = j
  · subst hij
    rw [List.getElem?_set] at q
    simp only [if_true] at q
    split at q
    · cases q
      exact ⟨v, by rw [List.getElem?_set_self hi], r⟩
    · cases q
  · rw [List.getElem?_set_ne hij] at q
    exact h.get j d' q
section
variable {X : Cx} {H0 : Hp} {B0 : Addr → Prop} {fr : Bool} {RX : XR} {pos : Pos}
end
end L2

/-! ### E70: x = f(.., y): an owned list y of ints is lent frozen, so that the list of ints that comes back is new -/
namespace L2
open PySem PySem.Spec PyProof.Rows
def hdI : List D → Bool
  | .int _ :: _ => true
  | _ => false
mutual
def noI : D → Bool
  | .lst ds => !hdI ds && noIs ds
  | .tup ds => noIs ds
  | .dct _ _ => false
  | .exc _ => false
  | .obj _ _ _ _ => false
  | .non => true
  | .bl _ => true
  | .int _ => true
  | .str _ => true
  | .scr _ => true
def noIs : List D → Bool
  | [] => true
  | d :: ds => noI d && noIs ds
end
def iB (H : Hp) : Addr → Prop := fun a => ∃ i xs, H a = some (.lst (.int i :: xs))
section
variable {K : PySem.W.Frag} {H : Hp} {B : Addr → Prop} {m : Addr} {xs : List V} {o : Obj}
theorem rep_int {i : Int} {d : D} (h : Rep K H B d (.int i)) : d = .int i := by
  cases d <;> unfold Rep at h
  case int j => cases h; rfl
  case non => cases h
  case bl => cases h
  case str => cases h
  case scr => obtain ⟨_, z, _⟩ := h; cases z
  case obj => obtain ⟨_, _, _, _, _, ⟨z, _⟩, _⟩ := h; cases z
  all_goals (obtain ⟨_, _, z, _⟩ := h; cases z)
theorem rd_fz {a : Addr} {u : HO} (hm : H m = some (.lst xs)) (hu : ∀ z, u ≠ .lst z) (h : Rd H a u) : Rd (upd H m (.frz o (.lst xs))) a u := by
  rcases h with z | ⟨o', z⟩
  · exact .inl (by rw [upd_ne (fun w => hu xs (by rw [w, hm] at z; exact (Option.some.inj z).symm))]; exact z)
  · exact .inr ⟨o', by rw [upd_ne (fun w => by rw [w, hm] at z; cases z)]; exact z⟩
mutual
theorem Rep.fz (hm : H m = some (.lst xs)) (hB : B m) : ∀ (d : D) {v : V}, noI d = true → Rep K H B d v → Rep K (upd H m (.frz o (.lst xs))) (iB (upd H m (.frz o (.lst xs)))) d v
  | .non, _, _, h => h
  | .bl _, _, _, h => h
  | .int _, _, _, h => h
  | .str _, _, _, h => h
  | .scr ns, _, _, h => by
    unfold Rep at h ⊢
    obtain ⟨a, e, z⟩ := h
    refine ⟨a, e, ?_⟩
    rcases z with ⟨o', z⟩ | z
    · exact .inl ⟨o', by rw [upd_ne (fun w => by rw [w, hm] at z; cases z)]; exact z⟩
    · exact .inr z
  | .dct _ _, _, n, _ => by unfold noI at n; cases n
  | .exc _, _, n, _ => by unfold noI at n; cases n
  | .obj _ _ _ _, _, n, _ => by unfold noI at n; cases n
  | .tup ds, _, n, h => by
    unfold noI at n
    unfold Rep at h ⊢
    obtain ⟨a, ys, e, z, r⟩ := h
    exact ⟨a, ys, e, z.elim (fun z => .inl (rd_fz hm (by intro _ z; cases z) z)) .inr, Reps.fz hm hB ds n r⟩
  | .lst ds, _, n, h => by
    unfold noI at n
    unfold Rep at h ⊢
    obtain ⟨a, ys, e, nb, ha, r⟩ := h
    have ne : a ≠ m := fun w => nb (w ▸ hB)
    obtain ⟨n1, n2⟩ := Bool.and_eq_true_iff.mp n
    refine ⟨a, ys, e, fun ⟨i, zs, z⟩ => ?_, by rw [upd_ne ne]; exact ha, Reps.fz hm hB ds n2 r⟩
    rw [upd_ne ne, ha] at z
    cases z
    cases ds with
    | nil => unfold Reps at r; cases r
    | cons d ds =>
      unfold Reps at r
      obtain ⟨x, r', e', rd, _⟩ := r
      cases e'
      rw [rep_int rd] at n1
      cases n1
theorem Reps.fz (hm : H m = some (.lst xs)) (hB : B m) : ∀ (ds : List D) {vs : List V}, noIs ds = true → Reps K H B ds vs → Reps K (upd H m (.frz o (.lst xs))) (iB (upd H m (.frz o (.lst xs)))) ds vs
  | [], _, _, h => h
  | d :: ds, _, n, h => by
    unfold noIs at n
    unfold Reps at h ⊢
    obtain ⟨x, r, e, rd, rs⟩ := h
    obtain ⟨n1, n2⟩ := Bool.and_eq_true_iff.mp n
    exact ⟨x, r, e, Rep.fz hm hB d n1 rd, Reps.fz hm hB ds n2 rs⟩
end
def intsO : List D → Option (List Int)
  | [] => some []
  | .int i :: ds => (intsO ds).map (i :: ·)
  | _ => none
theorem intsO_eq : ∀ {ds : List D} {ns : List Int}, intsO ds = some ns → ds = ns.map .int
  | [], _, h => by cases h; rfl
  | d :: ds, ns, h => by
    cases d
    case int i =>
      unfold intsO at h
      cases e : intsO ds with
      | none => rw [e] at h; cases h
      | some ms =>
        rw [e] at h
        cases h
        rw [intsO_eq e]; rfl
    all_goals (unfold intsO at h; cases h)
theorem trees_ints : ∀ {ns : List Int} {ys : List V} {A : List Addr}, Trees K H (ns.map .int) ys A → ys = ns.map V.int ∧ A = []
  | [], _, _, h => h
  | n :: ns, ys, A, h => by
    rw [List.map_cons] at h
    unfold Trees at h
    obtain ⟨x, r, B', C, e, t, ts, eA⟩ := h
    unfold Tree at t
    obtain ⟨e1, e2⟩ := trees_ints ts
    rw [e, eA, t.1, t.2, e1, e2]
    exact ⟨rfl, rfl⟩
theorem ints_trees : ∀ ns : List Int, Trees K H (ns.map .int) (ns.map V.int) []
  | [] => ⟨rfl, rfl⟩
  | n :: ns => by
    rw [List.map_cons]
    unfold Trees
    refine ⟨_, _, [], [], rfl, ?_, ints_trees ns, rfl⟩
    unfold Tree
    exact ⟨rfl, rfl⟩
end
section
variable {X : Cx} {H0 : Hp} {B0 : Addr → Prop} {fr : Bool} {RX : XR} {st : Stmt}
end
end L2

/-! ### E71: x[0].append(n), x.append([]) of a shared list of lists of ints, at the end of the law: what may be of it is forgotten -/
namespace L2
open PySem PySem.Spec PyProof.Rows
mutual
def noJ : D → Bool
  | .lst ds => !hdI ds && noJs ds
  | .non => true
  | .bl _ => true
  | .int _ => true
  | .str _ => true
  | .tup _ => false
  | .scr _ => false
  | .dct _ _ => false
  | .exc _ => false
  | .obj _ _ _ _ => false
def noJs : List D → Bool
  | [] => true
  | d :: ds => noJ d && noJs ds
end
section
variable {K : PySem.W.Frag} {H : Hp} {B : Addr → Prop} {m : Addr} {xs : List V}
mutual
theorem Rep.off (hm : H m = some (.lst xs)) (hx : ∀ ds, hdI ds = false → noJs ds = true → Reps K H B ds xs → False) : ∀ (d : D) {v : V}, noJ d = true → Rep K H B d v → Rep K H (fun a => B a ∨ a = m) d v
  | .non, _, _, h => h
  | .bl _, _, _, h => h
  | .int _, _, _, h => h
  | .str _, _, _, h => h
  | .tup _, _, n, _ => by unfold noJ at n; cases n
  | .scr _, _, n, _ => by unfold noJ at n; cases n
  | .dct _ _, _, n, _ => by unfold noJ at n; cases n
  | .exc _, _, n, _ => by unfold noJ at n; cases n
  | .obj _ _ _ _, _, n, _ => by unfold noJ at n; cases n
  | .lst ds, _, n, h => by
    unfold noJ at n
    unfold Rep at h ⊢
    obtain ⟨a, ys, e, nb, ha, r⟩ := h
    obtain ⟨n1, n2⟩ := Bool.and_eq_true_iff.mp n
    refine ⟨a, ys, e, fun z => ?_, ha, Reps.off hm hx ds n2 r⟩
    rcases z with z | z
    · exact nb z
    · rw [z, hm] at ha
      cases ha
      exact hx ds (by simpa using n1) n2 r
theorem Reps.off (hm : H m = some (.lst xs)) (hx : ∀ ds, hdI ds = false → noJs ds = true → Reps K H B ds xs → False) : ∀ (ds : List D) {vs : List V}, noJs ds = true → Reps K H B ds vs → Reps K H (fun a => B a ∨ a = m) ds vs
  | [], _, _, h => h
  | d :: ds, _, n, h => by
    unfold noJs at n
    unfold Reps at h ⊢
    obtain ⟨x, r, e, rd, rs⟩ := h
    obtain ⟨n1, n2⟩ := Bool.and_eq_true_iff.mp n
    exact ⟨x, r, e, Rep.off hm hx d n1 rd, Reps.off hm hx ds n2 rs⟩
end
end
def keepJ : Option SD → Option SD
  | some (.sh d) => if noJ d = true then some (.sh d) else none
  | some (.ow d) => some (.ow d)
  | _ => none
theorem keepJ_sh {o : Option SD} {d : D} (h : keepJ o = some (.sh d)) : o = some (.sh d) ∧ noJ d = true := by
  unfold keepJ at h
  split at h
  · split at h
    · rename_i z; cases h; exact ⟨rfl, z⟩
    · cases h
  · cases h
  · cases h
theorem keepJ_bo {o : Option SD} {r : Nat} {d : D} (h : keepJ o = some (.bo r d)) : False := by
  unfold keepJ at h
  split at h
  · split at h <;> cases h
  · cases h
  · cases h
section
variable {K : PySem.W.Frag} {H0 H H' : Hp} {B0 : Addr → Prop} {σ : St} {δ : SS} {R : Nat → List Addr}
/-- a cell that is nobody's own is written -/
theorem RS.wr {m : Addr} {xs ys : List V} (h : RS K H0 B0 H σ δ R) (hO : ∀ a xs, H0 a ≠ some (.lst xs)) (hk : ∀ x ∈ δ, keepJ x = x) (hm : H m = some (.lst xs)) (nR : ∀ r, m ∉ R r)
    (hx : ∀ B ds, hdI ds = false → noJs ds = true → Reps K H B ds xs → False) : RS K H0 B0 (upd H m (.lst ys)) σ δ R := by
  have mu : Mut (H m) := by rw [hm]; exact trivial
  have nm : ∀ r a, a ∈ R r → a ≠ m := fun r a z w => nR r (w ▸ z)
  refine ⟨fun a u q => ?_, h.inB, h.len, h.new, fun r a z => ?_, h.disj, fun i d q => ?_, fun i r d q => ?_, fun i d q => ?_⟩
  · have ne : a ≠ m := fun w => by
      have := h.keep a u q
      rw [w, hm] at this
      cases this
      exact hO a xs q
    rw [upd_ne ne]
    exact h.keep a u q
  · rw [upd_ne (nm r a z)]
    exact h.held r a z
  · obtain ⟨v, e, r⟩ := h.sh i d q
    have n := (keepJ_sh (hk _ (List.mem_of_getElem? q))).2
    exact ⟨v, e, (Rep.keep (Keep.upd (.inr rfl) mu) d (Rep.off hm (hx _) d n r)).anti fun a z => .inl z⟩
  · exact (keepJ_bo (hk _ (List.mem_of_getElem? q))).elim
  · obtain ⟨v, e, t, nd⟩ := h.ow i d q
    refine ⟨v, e, Tree.keep (Keep.upd (K := K) (B := fun x => x = m) rfl mu).i d t fun a ha o z => ?_, nd⟩
    rw [upd_ne (nm i a ha)]
    exact z
end
section
variable {X : Cx} {H0 : Hp} {B0 : Addr → Prop} {fr : Bool} {RX : XR} {st1 st2 : Stmt} {sts : List Stmt} {f : DE} {z : Int}
end
end L2

/-! ### E72: the law's def where nothing but the script is there at the start -/
namespace L2
open PySem PySem.Spec PyProof.Rows
section
variable {P : Program} {w : World} {K : PySem.W.Frag} {mg : Str → Option Value} {base : Heap}
end
section
variable {X : Cx} {e : Expr} {pos ap cp p2 : Pos} {x : Str} {px : Pos} {f : DE} {z : Int} {ke : Expr}
end
end L2

/-! ### E73: min of a list of ints, frozen or not -/
namespace L2
open PySem PySem.Spec PyProof.Rows
section
variable {X : Cx}
variable {e : Expr} {f : DE} {p pos : Pos}
end
end L2

/-! ### E74: xs.append(ys.pop(0)) of two owned lists of ints -/
namespace L2
open PySem PySem.Spec PyProof.Rows
theorem dropBs_ow {i j : Nat} {δ : SS} {d : D} (h : δ[i]? = some (some (.ow d))) : (dropBs j δ)[i]? = some (some (.ow d)) := by
  unfold dropBs
  rw [List.getElem?_map, h]
  rfl
def popS (i j : Nat) (c : Int) (ds es : List D) (δ : SS) : SS := (dropBs i ((dropBs j δ).set j (some (.ow (.lst es))))).set i (some (.ow (.lst (ds ++ [.int c]))))
section
variable {X : Cx} {H0 : Hp} {B0 : Addr → Prop} {fr : Bool} {RX : XR} {e : Expr} {pos ap cp ap2 cp2 : Pos} {x y : Str} {px py : Pos}
end
end L2

/-! ### E75: zip of two sequences, its pairs taken apart at once -/
namespace L2
open PySem PySem.Spec PyProof.Rows
section
variable {prog : Program} {w : World} {A : Around} {E : Value → Shared → Prop} {s : Shared} {it t : Addr} {i : Nat} {its : Array Value} {Q : Fin → Shared → Prop} {o ol : Obj} {n : Nat} {x : Value}
end
section
variable {prog : Program} {w : World} {A : Around} {E : Value → Shared → Prop} {s : Shared} {z TI TO i1 i2 : Addr} {a b : Value}
/-- what is not one of these stays -/
def Stay (xs : List Addr) (h h' : Heap) : Prop := ∀ c o, c ∉ xs → h.get? c = some o → h'.get? c = some o
theorem Stay.but {c : Addr} {xs : List Addr} {h h1 h2 : Heap} (k : Stay xs h h1) (e : Heap.ExtBut c h1 h2) (hc : c ∈ xs) : Stay xs h h2 := fun b o hb q => e b o (fun z => hb (z ▸ hc)) (k b o hb q)
theorem Stay.one {c : Addr} {xs : List Addr} {h h1 : Heap} (e : Heap.ExtBut c h h1) (hc : c ∈ xs) : Stay xs h h1 := fun b o hb q => e b o (fun z => hb (z ▸ hc)) q
theorem Stay.wide {xs ys : List Addr} {h h1 : Heap} (k : Stay xs h h1) (e : ∀ c ∈ xs, c ∈ ys) : Stay ys h h1 := fun b o hb q => k b o (fun z => hb (e b z)) q

end
section
variable {prog : Program} {w : World} {A : Around} {E : Value → Shared → Prop} {s : Shared} {z TI TO i1 i2 : Addr} {a b : Value}
/-! zip(tuple, list) -/
end
end L2

/-! ### E76: zip as what is gone through -/
namespace L2
open PySem PySem.Spec PyProof.Rows
/-! a tuple (true) or a list (false) -/
def SIt (h : Heap) (tp : Bool) (it a : Addr) (i : Nat) : Prop := if tp = true then h.IsTupleIter it a i else h.IsListIter it a i
def SSq (h : Heap) (tp : Bool) (a : Addr) (its : Array Value) : Prop := if tp = true then h.IsTuple a its else h.IsList a its
theorem SIt.obj {h : Heap} {tp : Bool} {it a : Addr} {i : Nat} (x : SIt h tp it a i) : ∃ o, h.get? it = some o ∧ (o.cls = .type "tuple_iterator" ∨ o.cls = .type "list_iterator") ∧ ∃ vs, o.data = .fields vs := by
  cases tp with
  | true => obtain ⟨o, e, c, d⟩ := (show h.IsTupleIter it a i from x); exact ⟨o, e, .inl c, _, d⟩
  | false => obtain ⟨o, e, c, d⟩ := (show h.IsListIter it a i from x); exact ⟨o, e, .inr c, _, d⟩
theorem SSq.obj {h : Heap} {tp : Bool} {a : Addr} {its : Array Value} (x : SSq h tp a its) : ∃ o, h.get? a = some o ∧ (o.cls = .type "tuple" ∨ o.cls = .type "list") := by
  cases tp with
  | true => obtain ⟨o, e, c, _⟩ := (show h.IsTuple a its from x); exact ⟨o, e, .inl c⟩
  | false => obtain ⟨o, e, c, _⟩ := (show h.IsList a its from x); exact ⟨o, e, .inr c⟩
theorem SIt.at {h h' : Heap} {tp : Bool} {it a : Addr} {i : Nat} (x : SIt h tp it a i) (k : ∀ o, h.get? it = some o → h'.get? it = some o) : SIt h' tp it a i := by
  cases tp with
  | true => obtain ⟨o, e, r⟩ := (show h.IsTupleIter it a i from x); exact ⟨o, k o e, r⟩
  | false => obtain ⟨o, e, r⟩ := (show h.IsListIter it a i from x); exact ⟨o, k o e, r⟩
theorem SSq.at {h h' : Heap} {tp : Bool} {a : Addr} {its : Array Value} (x : SSq h tp a its) (k : ∀ o, h.get? a = some o → h'.get? a = some o) : SSq h' tp a its := by
  cases tp with
  | true => obtain ⟨o, e, r⟩ := (show h.IsTuple a its from x); exact ⟨o, k o e, r⟩
  | false => obtain ⟨o, e, r⟩ := (show h.IsList a its from x); exact ⟨o, k o e, r⟩
section
variable {X : Cx} {pins : List (Addr × Obj)} {σ : St} {H : Hp} {s : Shared} {a : Addr} {xs ys : List V} {tp : Bool}
end
/-- where the two of them and the zip's own things stand -/
structure ZipAt (h : Heap) (tp : Bool) (a b z TI TO i1 i2 : Addr) (i : Nat) : Prop where
  zip : IsZip h z TI TO .none
  its : IsPair h TI (.ref i1) (.ref i2)
  out : ∃ u v, IsPair h TO u v
  one : SIt h tp i1 a i
  two : SIt h false i2 b i
end L2

/-! ### E77: lists of ints that are changed no more are frozen: they are then as the script is, things that cannot change -/
namespace L2
open PySem PySem.Spec PyProof.Rows
def fzH (ob : Addr → Obj) (L : Addr → Bool) (H : Hp) : Hp := fun a => match H a with
  | some (.lst xs) => if L a = true then some (.frz (ob a) (.lst xs)) else some (.lst xs)
  | z => z
section
variable {ob : Addr → Obj} {L : Addr → Bool} {H : Hp} {a : Addr}
theorem fzH_on {xs : List V} (h : H a = some (.lst xs)) (hl : L a = true) : fzH ob L H a = some (.frz (ob a) (.lst xs)) := by
  unfold fzH
  rw [h]
  exact if_pos hl
theorem fzH_off (hl : L a = false) : fzH ob L H a = H a := by
  unfold fzH
  cases h : H a with
  | none => rfl
  | some u =>
    cases u with
    | lst xs => exact if_neg (by rw [hl]; exact Bool.false_ne_true)
    | _ => rfl
theorem fzH_oth (h : ∀ xs, H a ≠ some (.lst xs)) : fzH ob L H a = H a := by
  unfold fzH
  cases e : H a with
  | none => rfl
  | some u =>
    cases u with
    | lst xs => exact (h xs e).elim
    | _ => rfl
theorem fzH_no (h : fzH ob L H a = none) : H a = none := by
  cases e : H a with
  | none => rfl
  | some u =>
    cases u with
    | lst xs =>
      cases hl : L a with
      | true => rw [fzH_on e hl] at h; cases h
      | false => rw [fzH_off hl, e] at h; cases h
    | _ => rw [fzH_oth (fun xs z => by rw [e] at z; cases z), e] at h; cases h
end
theorem Inv.fz {X : Cx} {pins : List (Addr × Obj)} {σ : List (Option V)} {H : Hp} {s : Shared} (I : Inv X pins σ H s) (L : Addr → Bool) : ∃ ob, Inv X pins σ (fzH ob L H) s := by
  refine ⟨fun a => (s.heap.get? a).getD ⟨.none, none, .fields #[], #[]⟩, ?_⟩
  have no : ∀ {b : Addr}, H b = none → fzH (fun a => (s.heap.get? a).getD ⟨.none, none, .fields #[], #[]⟩) L H b = none := fun z => by rw [fzH_oth (fun xs w => by rw [z] at w; cases w)]; exact z
  have ot : ∀ {b : Addr} {u : HO}, H b = some u → (∀ xs, u ≠ .lst xs) → fzH (fun a => (s.heap.get? a).getD ⟨.none, none, .fields #[], #[]⟩) L H b = some u := fun z hu => by rw [fzH_oth (fun xs w => by rw [z] at w; exact hu xs (Option.some.inj w))]; exact z
  have st : ∀ {b : Addr} {u : HO}, ObjOk X.prog X.w H s.heap b u → ObjOk X.prog X.w (fzH (fun a => (s.heap.get? a).getD ⟨.none, none, .fields #[], #[]⟩) L H) s.heap b u := fun x => x.stay (fun _ _ _ q => q) (fun d z => ot z fun _ w => by cases w) fun d xs z => ot z fun _ w => by cases w
  refine ⟨I.ok, I.os, I.bare, ⟨I.base.keep, I.base.slot, fun b o q n hx => no (I.base.free b o q n hx), I.base.there, fun b xs q => ot (I.base.tups b xs q) fun _ w => (by cases w), fun b o u q => ot (I.base.frzs b o u q) fun _ w => (by cases w), fun b ps q => ?_⟩,
    I.loc, I.cell, no I.free, fun x c h => no (I.freeC x c h), fun p hp => ?_, fun b u q => ?_, I.len⟩
  · obtain ⟨more, z⟩ := I.base.tbls b ps q
    exact ⟨more, ot z fun _ w => by cases w⟩
  · obtain ⟨p1, p2, p3⟩ := I.pin p hp
    exact ⟨p1, no p2, p3⟩
  · cases e : H b with
    | none => rw [no e] at q; cases q
    | some u0 =>
      by_cases hu : ∃ xs, u0 = .lst xs
      · obtain ⟨xs, rfl⟩ := hu
        have ok := I.hok b _ e
        cases hl : L b with
        | false =>
          rw [fzH_off hl, e] at q
          cases q
          exact st ok
        | true =>
          rw [fzH_on e hl] at q
          cases q
          obtain ⟨z, its, n, r, eg⟩ := (show ObjOk X.prog X.w H s.heap b (.lst xs) from ok)
          refine ⟨?_, st ok⟩
          rw [eg]
          rfl
      · rw [ot e fun xs w => hu ⟨xs, w⟩] at q
        cases q
        exact st (I.hok b _ e)
section
variable {K : PySem.W.Frag} {ob : Addr → Obj} {L : Addr → Bool} {H0 H : Hp} {B B0 : Addr → Prop} {σ : St} {δ : SS} {R : Nat → List Addr}
theorem Keep.fz (hb : ∀ a, L a = true → B a) : Keep K B H (fzH ob L H) := by
  have off : ∀ {a : Addr}, ¬ B a → L a = false := fun {a} n => by
    cases h : L a with
    | false => rfl
    | true => exact (n (hb a h)).elim
  have ot : ∀ {b : Addr} {u : HO}, H b = some u → (∀ xs, u ≠ .lst xs) → fzH ob L H b = some u := fun z hu => by rw [fzH_oth (fun xs w => by rw [z] at w; exact hu xs (Option.some.inj w))]; exact z
  refine ⟨fun b xs n h => by rw [fzH_off (off n)]; exact h, fun b xs h => ?_, fun b xs h => ?_, fun b kvs n h => ot h fun _ w => (by cases w), fun b φ n h => ot h fun _ w => (by cases w), fun b _ _ _ n h => ot h fun _ w => by cases w⟩
  · rcases h with (h | ⟨u, h⟩) | h
    · exact .inl (.inl (ot h fun _ w => by cases w))
    · exact .inl (.inr ⟨u, ot h fun _ w => by cases w⟩)
    · exact .inr h
  · rcases h with ⟨u, h⟩ | h
    · exact .inl ⟨u, ot h fun _ w => by cases w⟩
    · exact .inr h
theorem dropBs_lenE {i : Nat} {δ : SS} : (dropBs i δ).length = δ.length := by unfold dropBs; rw [List.length_map]
/-- what is frozen is of slot i's own -/
theorem RS.fz {i : Nat} {x : SD} {A' : List Addr} (rs : RS K H0 B0 H σ δ R) (hL : ∀ a, L a = true → a ∈ R i) (hA : ∀ a ∈ A', a ∈ R i ∧ L a = false) (nd : A'.Nodup)
    (hs : ∀ d, x = .sh d → ∃ v, σ[i]? = some (some v) ∧ Rep K (fzH ob L H) (fun a => B0 a ∨ ∃ r, a ∈ setR R i A' r) d v) (hb : ∀ r d, x ≠ .bo r d) (ho : ∀ d, x = .ow d → ∃ v, σ[i]? = some (some v) ∧ Tree K (fzH ob L H) d v A') :
    RS K H0 B0 (fzH ob L H) σ ((dropBs i δ).set i (some x)) (setR R i A') ∧ Stp R H (setR R i A') (fzH ob L H) := by
  have sub : ∀ r a, a ∈ setR R i A' r → a ∈ R r ∧ L a = false := fun r a z => by
    by_cases hr : r = i
    · subst hr
      rw [setR_same] at z
      exact hA a z
    · rw [setR_ne hr] at z
      refine ⟨z, ?_⟩
      cases h : L a with
      | false => rfl
      | true => exact (hr (rs.disj r i a z (hL a h))).elim
  have off : ∀ {a : Addr}, a ∉ R i → L a = false := fun {a} n => by
    cases h : L a with
    | false => rfl
    | true => exact (n (hL a h)).elim
  refine ⟨⟨fun a o h => ?_, rs.inB, by rw [List.length_set, dropBs_lenE]; exact rs.len, fun r a z => rs.new r a (sub r a z).1, fun r a z => ?_, fun r s a h h' => rs.disj r s a (sub r a h).1 (sub s a h').1, fun j d z => ?_, fun j r d z => ?_, fun j d z => ?_⟩, ⟨fun a o h n => ?_, fun r a z => .inl ⟨r, (sub r a z).1⟩, fun a z => fzH_no z⟩⟩
  · have n : a ∉ R i := fun z => by rw [rs.new i a z] at h; cases h
    rw [fzH_off (off n)]
    exact rs.keep a o h
  · obtain ⟨o, e, m⟩ := rs.held r a (sub r a z).1
    exact ⟨o, by rw [fzH_off (sub r a z).2]; exact e, m⟩
  · rcases get_set z with ⟨rfl, e, _⟩ | ⟨hj, e⟩
    · exact hs d (Option.some.inj e)
    · obtain ⟨v, ev, r⟩ := rs.sh j d (dropBs_get e).1
      exact ⟨v, ev, Rep.anti (fun a h => h.elim .inl fun ⟨r, h⟩ => .inr ⟨r, (sub r a h).1⟩) d (Rep.keep (.fz fun a h => .inr ⟨i, hL a h⟩) d r)⟩
  · rcases get_set z with ⟨rfl, e, _⟩ | ⟨hj, e⟩
    · exact (hb r d (Option.some.inj e)).elim
    · obtain ⟨e1, e2⟩ := dropBs_get e
      have hri : i ≠ r := fun w => e2 d (by rw [w])
      obtain ⟨v, ev, q⟩ := rs.bo j r d e1
      exact ⟨v, ev, Rep.anti (fun a h => h.elim .inl fun ⟨s, hs, h⟩ => .inr ⟨s, hs, (sub s a h).1⟩) d (Rep.keep (.fz fun a h => .inr ⟨i, hri, hL a h⟩) d q)⟩
  · rcases get_set z with ⟨rfl, e, _⟩ | ⟨hj, e⟩
    · obtain ⟨v, ev, t⟩ := ho d (Option.some.inj e)
      rw [setR_same]
      exact ⟨v, ev, t, nd⟩
    · obtain ⟨v, ev, t, n⟩ := rs.ow j d (dropBs_get e).1
      rw [setR_ne hj]
      refine ⟨v, ev, Tree.keep (Keep.fz (B := fun a => a ∈ R i) hL).i d t fun a ha o q => ?_, n⟩
      rw [fzH_off (off fun w => hj (rs.disj j i a ha w))]
      exact q
  · rw [fzH_off (off (n i))]
    exact h
end
/-! [[1, 2], [3]]: the inner ones -/
section
variable {K : PySem.W.Frag} {ob : Addr → Obj} {L : Addr → Bool} {H : Hp}
end
/-! ahead of a statement: an owned list of ints; the inner lists of an owned list -/
section
variable {X : Cx} {H0 : Hp} {B0 : Addr → Prop} {fr : Bool} {RX : XR} {st : Stmt}
end
end L2

/-! ### E78: x in xs, where xs may be frozen; tuple(xs) of such a one -/
namespace L2
open PySem PySem.Spec PyProof.Rows
section
variable {X : Cx}
variable {a b : Expr} {f g : DE} {pos : Pos}
/-! tuple(xs) -/
end
end L2

/-! ### E79: max(xs) and len(set(xs)) of a tuple of ints; {"a": x, "b": y} -/
namespace PySem
section
variable {prog : Program} {w : World} {A : Around} {E : Value → Shared → Prop} {s : Shared}
set_option maxHeartbeats 3200000 in
open PyProof.Rows in
end
end PySem
namespace L2
open PySem PySem.Spec PyProof.Rows
section
variable {X : Cx} {e : Expr} {te : TE} {p p' pos pos' : Pos}
variable {f : DE}
/-! max of a tuple -/
/-! {"a": x, "b": y}, x and y things that cannot change -/
end
end L2

/-! ### E80: a dict of two words -/
namespace L2
open PySem PySem.Spec PyProof.Rows
section
variable {X : Cx} {ka va kb vb : Expr} {pos : Pos} {fa fb fc fd : DE}
end
end L2

/-! ### E81: name = [elt for a, b in iter if c] -/
namespace L2
open PySem PySem.Spec PyProof.Rows
section
variable {X : Cx} {N' : List Str} {sc : Scope} {iter elt : Expr} {ifs : List Expr} {n : Nat} {x x' : Str} {px px' tp pos : Pos} {x1 : Nat} {fi : DS → Option (List D)} {fc : DS → Option Bool} {fe : DE}
end
end L2

/-! ### E82: defs that may raise and hand back what is shared -/
namespace L2
open PySem PySem.Spec PyProof.Rows
section
variable {P : Program} {w : World} {K : PySem.W.Frag} {mg : Str → Option Value} {base : Heap}
end
section
variable {X : Cx} {k : Nat} {sp : Sp} {cl : Nat → Value} {RX : XR} {x : Str} {p pos pos2 : Pos} {e : Expr} {es : List Expr} {t : TA}
variable {H0 : Hp} {B0 : Addr → Prop} {fr : Bool} {F : DS → Option XO}
end
end L2

/-! ### E83: x[1].append(n) of a shared tuple (word, list of ints), at the end of the law: what may be of it is forgotten -/
namespace L2
open PySem PySem.Spec PyProof.Rows
section
variable {K : PySem.W.Frag} {H : Hp} {B : Addr → Prop} {m : Addr} {c : Int} {ys : List V}
end
section
variable {K : PySem.W.Frag} {H0 H H' : Hp} {B0 : Addr → Prop} {σ : St} {δ : SS} {R : Nat → List Addr}
end
section
variable {X : Cx} {H0 : Hp} {B0 : Addr → Prop} {fr : Bool} {RX : XR} {st1 : Stmt} {sts : List Stmt} {f : DE} {x : Str} {px p2 ap cp pos : Pos} {ke e : Expr}
end
end L2

/-! ### E84: texts: +, <=, in, not in, t[k], t[a:b], len, str(n), int(t), find; for sign in t -/
namespace L2
open PySem PySem.Spec PyProof.Rows
section
variable {X : Cx} {a b c e o : Expr} {f g h : DE} {p pos apos cpos p2 : Pos} {tg : Expr}
/-! for sign in text -/
end
end L2

/-! ### E85: abs(n); // by a divisor of any sign -/
namespace L2
open PySem PySem.Spec PyProof.Rows
instance {i j : Int} : Decidable (CDivN i j) := by unfold CDivN; infer_instance
section
variable {X : Cx} {a b e : Expr} {f g : DE} {p pos : Pos}
end
end L2

/-! ### E86: instances of the program's own classes: attributes, methods that look, methods and defs that change the instance handed in first -/
namespace L2
open PySem PySem.Spec PyProof.Rows
/-- a method of the class of that name -/
structure MethOk (P : Program) (w : World) (K : PySem.W.Frag) (mg : Str → Option Value) (base : Heap) (k : Nat) (cn m : Str) (sp : Sp) : Prop where
  ok : ∃ (C f : Addr) (fd : FuncData) (ps : List Str), PySem.W.nsIn K mainGlobals cn = some (some (.ref C)) ∧ L2.Cls K C ∧ Meth K C m f ∧ Binds K fd ps [] ∧ FnOk P w K mg base CX0 k f fd ps sp
/-! o.f -/
def fldF (f : Str) : D → Option D
  | .obj _ _ ks ds => (ks.zip ds).lookup f
  | _ => none
theorem fld_get {K : PySem.W.Frag} {H : Hp} {B : Addr → Prop} {f : Str} {d : D} : ∀ {fs : List (Str × V)} {ds : List D}, Reps K H B ds (fs.map (·.2)) → ((fs.map (·.1)).zip ds).lookup f = some d → f ∈ fs.map (·.1) ∧ ∃ v, fs.lookup f = some v ∧ Rep K H B d v
  | [], ds, _, e => by simp at e
  | (k, u) :: fs, [], r, e => by simp at e
  | (k, u) :: fs, d' :: ds, r, e => by
    rw [List.map_cons] at r
    unfold Reps at r
    obtain ⟨x, r', ex, r1, r2⟩ := r
    cases ex
    rw [List.map_cons, List.zip_cons_cons] at e
    by_cases h : f = k
    · have hb : (f == k) = true := beq_iff_eq.mpr h
      simp only [List.lookup, hb] at e ⊢
      cases e
      exact ⟨by rw [h]; exact List.mem_cons_self, u, rfl, r1⟩
    · have hb : (f == k) = false := beq_eq_false_iff_ne.mpr h
      simp only [List.lookup, hb] at e ⊢
      obtain ⟨m, v, e1, r3⟩ := fld_get r2 e
      exact ⟨List.mem_cons_of_mem _ m, v, e1, r3⟩
section
variable {X : Cx} {e o : Expr} {es : List Expr} {pos apos p px cp : Pos} {f m cn : Str} {k : Nat}
theorem pd_fld {g : DE} (h : PD X e g) (hb : attributeBase e f X.env (eval e X.env) = eval e X.env := by rfl) : PD X (.Attribute e f pos) (d1 (fldF f) g) := (pe_fld h hb).imp fun σ H Q ⟨B, δ, d, hB, S, q, k⟩ => by
  obtain ⟨o, e1, e2⟩ := d1_some q
  refine ⟨B, δ, o, hB, S, e1, fun v H1 s1 r1 => ?_⟩
  cases o with
  | obj x a ks ds =>
    unfold Rep at r1
    obtain ⟨C, dx, fs, nb, ha, ⟨rfl, hn, hi, rfl⟩, rs⟩ := r1
    obtain ⟨m, u, e3, r3⟩ := fld_get rs e2
    obtain ⟨cl, _, _, _, _, _, na⟩ := icls_of hi
    exact ⟨a, C, dx, fs, u, rfl, ha, cl, na f m, e3, k u H1 s1 r3⟩
  | _ => cases e2
/-- a module's constant -/
theorem pd_glob {x : Str} {i : Int} {pos : Pos} (hg : Gl X x) (hm : ∃ t, X.mg x = some (.int i t)) (hd : (x == ("__debug__" : Str)) = false := by decide) : PD X (.Name x pos) (dC (.int i)) := by
  obtain ⟨t, hm⟩ := hm
  exact pd_C (v := .int i) (pe_glob hg hm ⟨t, rfl⟩ hd) fun _ _ _ => rfl
/-! o.m(..) -/
def mthF {α : Type} (cn m : Str) (F : List D → Option α) : List D → Option α
  | .obj x a ks ds :: r => if (x == cn && !ks.contains m) = true then F (.obj x a ks ds :: r) else none
  | _ => none
theorem mthF_some {α : Type} {F : List D → Option α} {d : D} {r : List D} {z : α} (h : mthF cn m F (d :: r) = some z) : ∃ a ks ds, d = .obj cn a ks ds ∧ ks.contains m = false ∧ F (d :: r) = some z := by
  cases d with
  | obj x a ks ds =>
    have h2 : (if (x == cn && !ks.contains m) = true then F (.obj x a ks ds :: r) else none) = some z := h
    split at h2
    · rename_i hc
      rw [Bool.and_eq_true, beq_iff_eq, Bool.not_eq_true'] at hc
      obtain ⟨rfl, hc⟩ := hc
      exact ⟨a, ks, ds, rfl, hc, h2⟩
    · cases h2
  | _ => cases h
theorem look_no {fs : List (Str × V)} (h : (fs.map (·.1)).contains m = false) : fs.lookup m = none := by
  induction fs with
  | nil => rfl
  | cons x r ih =>
    obtain ⟨k, v⟩ := x
    rw [List.map_cons, List.contains_cons, Bool.or_eq_false_iff] at h
    simp only [List.lookup, h.1]
    exact ih h.2
theorem meth_of {F : List D → Option D} {g : DE} {fl : List DE} {C : Addr} {t : TA} (hn : PySem.W.nsIn X.K mainGlobals cn = some (some (.ref C))) (ht : ∀ σ H Q, tDs X.K (dArgs fl) σ H Q → t σ H Q) (σ : St) (H : Hp) (Q : VK) (h : tN X.K (dCall (mthF cn m F) (g :: fl)) σ H Q) : tMeth C m (spN X.K F) [] E0 (tD X.K g) t σ H Q := by
  obtain ⟨δ, d, S, q, k⟩ := h
  obtain ⟨ds, e1, e2⟩ := dCall_some q
  obtain ⟨x, xs, e3, e4, rfl⟩ := dArgs_some e1
  obtain ⟨a, ks, dd, rfl, hc, e5⟩ := mthF_some e2
  refine ⟨noB, δ, _, .no, S, e3, fun v H1 s1 r1 => ?_⟩
  have r1' := r1
  unfold Rep at r1'
  obtain ⟨C', dx, fs, nb, ha, ⟨rfl, hn', hi, rfl⟩, rs⟩ := r1'
  rw [hn] at hn'
  cases hn'
  refine ⟨a, dx, fs, rfl, ha, look_no hc, ht _ _ _ ⟨noB, δ, xs, .no, S.mono s1, e4, fun vs H2 s2 r2 => ?_⟩⟩
  show spN X.K F (V.ref a :: (vs ++ [])) H2 Q E0
  rw [List.append_nil]
  exact ⟨_, d, Reps.cons (r1.mono s2) r2, e5, fun v' H' A s' t nd fr => k v' H' A (s1.trans (s2.trans s')) t nd fun a ha => s1.free (s2.free (fr a ha))⟩
theorem pn_meth0 {F : List D → Option D} {g : DE} {pl : Sem Bool} (G : MethOk X.prog X.w X.K X.mg X.base k cn m (spN X.K F)) (hr : Room k X.A) (ho : PD X o g)
    (ht : eval (.Call (.Attribute o m apos) [] [] pos) X.env = (do
      let ov ← eval o X.env
      standAt apos.atName
      let (f, first) ← holding [ov] (getMethod ov m pl)
      callWith pos f first (backTo pos (starEach [] X.env)) (backToKw pos (keywordEach [] X.env))) := by rfl) :
    PN X (.Call (.Attribute o m apos) [] [] pos) (dCall (mthF cn m F) [g]) := by
  obtain ⟨C, f, fd, ps, hn, hc, hm, hb, ok⟩ := G.ok
  exact (pe_meth0 ho hc hm ok hr hb .nil pass0 ht).imp (meth_of hn fun σ H Q ⟨B, δ, ds, hB, S, q, k⟩ => by cases q; exact k [] H (.refl H) .nil)
theorem pn_meth {F : List D → Option D} {g : DE} {fl : List DE} {pl : Sem Bool} (G : MethOk X.prog X.w X.K X.mg X.base k cn m (spN X.K F)) (hr : Room k X.A) (ho : PD X o g) (ha : PAD X (e :: es) fl)
    (hst : starEach (e :: es) X.env = (false, eval e X.env) :: starEach es X.env := by rfl) (hpl : (backTo pos (starEach es X.env)).any (·.1) = false := by rfl)
    (ht : eval (.Call (.Attribute o m apos) (e :: es) [] pos) X.env = (do
      let ov ← eval o X.env
      standAt apos.atName
      let (f, first) ← holding [ov] (getMethod ov m pl)
      callWith pos f first (backTo pos (starEach (e :: es) X.env)) (backToKw pos (keywordEach [] X.env))) := by rfl) :
    PN X (.Call (.Attribute o m apos) (e :: es) [] pos) (dCall (mthF cn m F) (g :: fl)) := by
  obtain ⟨C, f, fd, ps, hn, hc, hm, hb, ok⟩ := G.ok
  exact (pe_meth ho hc hm ok hr hb .nil pass0 ha hst hpl ht).imp (meth_of hn fun _ _ _ h => h)
end
/-! ### a def or method that changes the instance handed in first -/
def spB (K : PySem.W.Frag) (F : List D → Option (D × D)) : Sp := fun vs H Q _ => ∃ v r d0 ds o d A, vs = v :: r ∧ Tree K H d0 v A ∧ A.Nodup ∧ Reps K H (fun a => a ∈ A) ds r ∧ F (d0 :: ds) = some (o, d) ∧
  ∀ v' H' A', Same (hideA H A) H' → Tree K H' o v A' → A'.Nodup → (∀ a ∈ A', a ∈ A ∨ H a = none) → (∀ a, H' a = none → H a = none) → d.imm = true → Rep K H' noB d v' → Q v' H'
def sameO (d0 : D) (δ : SS) (d : D) : Option (D × D) := match d0, δ[0]? with
  | D.obj _ a _ _, some (some (SD.ow (D.obj x a' ks ds))) => if a = a' then some (.obj x a' ks ds, d) else none
  | _, _ => none
theorem sameO_some {d0 d d1 d2 : D} {δ : SS} (h : sameO d0 δ d = some (d1, d2)) : d2 = d ∧ δ[0]? = some (some (.ow d1)) ∧ ∃ x a ks ds x' ks' ds', d0 = .obj x a ks ds ∧ d1 = .obj x' a ks' ds' := by
  unfold sameO at h
  split at h
  · rename_i x a ks ds x' a' ks' ds' e
    split at h
    · rename_i ea
      cases h
      subst ea
      exact ⟨rfl, e, x, a, ks, ds, x', ks', ds', rfl, rfl⟩
    · cases h
  · cases h
def runB (np nl : Nat) (g : SS → Option Out) : List D → Option (D × D) := fun ds => match ds with
  | [] => none
  | d0 :: ds => if ds.length + 1 = np then (match g (some (.ow d0) :: ds.map (fun d => some (.sh d)) ++ List.replicate nl none) with
    | some (.rb d δ) => sameO d0 δ d
    | some (.nx δ) => sameO d0 δ .non
    | _ => none) else none
section
variable {P : Program} {w : World} {K : PySem.W.Frag} {mg : Str → Option Value} {base : Heap}
theorem obj_val {H : Hp} {x : Str} {a : Addr} {ks : List Str} {ds : List D} {v : V} {A : List Addr} (t : Tree K H (.obj x a ks ds) v A) : v = .ref a := by
  unfold Tree at t
  obtain ⟨_, _, _, _, _, ⟨e, _⟩, _⟩ := t
  exact e
theorem fnB {x qual : Str} {st : Stmt} {f : Addr} {fd : FuncData} {N ps : List Str} {k np nl : Nat} {g : SS → Option Out} (F : Fun K x qual st f fd) (S : FnScope N ps (defScope st)) (hnp : ps.length = np) (hN : N.length = np + nl)
    (hbody : ∀ (cdv : Value) (A : Around) (outer : List Env) (s : Shared) (H H0 : Hp) (E : XK), Room k (A.deeper (envOfC qual (defScope st) s.heap.objs.size f cdv)) →
      PSs (cxOf CX0 P w K mg base N qual (defScope st) f cdv A outer s H E).nox (defBody st) (tS K H0 noB true noX g)) : FnOk P w K mg base CX0 (k + 1) f fd ps (spB K (runB np nl g)) := by
  refine F.ok S (fun vs H Q E h => ?_) fun cdv A outer s H vs Q E hr h => ?_
  · obtain ⟨v, r, d0, ds, o, d, A, rfl, _, _, rr, e, _⟩ := h
    unfold runB at e
    simp only at e
    split at e
    · rename_i hl
      rw [List.length_cons, ← rr.length, hl, hnp]
    · cases e
  · obtain ⟨v, r, d0, ds, o, d, A', rfl, t, nd, rr, e, kk⟩ := h
    refine ⟨_, hbody cdv A outer s H (hideA H A') E hr, ?_⟩
    have hl : ds.length + 1 = np := by
      unfold runB at e
      simp only at e
      split at e
      · assumption
      · cases e
    have e' : (match g (some (.ow d0) :: ds.map (fun d => some (.sh d)) ++ List.replicate nl none) with | some (.rb d δ) => sameO d0 δ d | some (.nx δ) => sameO d0 δ .non | _ => none) = some (o, d) := by
      unfold runB at e
      simp only [if_pos hl] at e
      exact e
    have rs := rs_startM (nl := nl) (N := N) t nd rr (by omega)
    have fr : ∀ a, hideA H A' a = none → a ∈ A' ∨ H a = none := fun a z => by
      by_cases h : a ∈ A'
      · exact .inl h
      · rw [hideA_out h] at z; exact .inr z
    have fin : ∀ {d1 : D} {δ' : SS} {σ' : St} {H' : Hp} {R' : Nat → List Addr} {v' : V}, sameO d0 δ' d1 = some (o, d) → RS K (hideA H A') noB H' σ' δ' R' → (∀ a, H' a = none → H a = none) → d1.imm = true → Rep K H' noB d1 v' → Q v' H' := fun {d1 δ' σ' H' R' v'} es rs' th im rv => by
      obtain ⟨rfl, e0, x1, a1, ks1, ds1, x2, ks2, ds2, rfl, rfl⟩ := sameO_some es
      obtain ⟨u, _, t', nd'⟩ := rs'.ow 0 _ e0
      have eu : u = v := (obj_val t').trans (obj_val t).symm
      subst eu
      exact kk v' H' (R' 0) rs'.keep t' nd' (fun a ha => fr a (rs'.new 0 a ha)) th im rv
    split at e'
    · rename_i d1 δ' eg
      exact ⟨_, _, _, rs, eg, fun v' σ' H' R' rs' st' im rv => fin e' rs' st'.there im rv⟩
    · rename_i δ' eg
      exact ⟨_, _, _, rs, eg, fun σ' H' R' rs' st' => fin e' rs' st'.there rfl rfl⟩
    · cases e'
theorem defB {x qual : Str} {st : Stmt} {f : Addr} {fd : FuncData} {N ps : List Str} {k np nl : Nat} {g : SS → Option Out} (F : Fun K x qual st f fd) (hm : mg x = some (.ref f)) (hb : Binds K fd ps []) (S : FnScope N ps (defScope st)) (hnp : ps.length = np) (hN : N.length = np + nl)
    (hbody : ∀ (cdv : Value) (A : Around) (outer : List Env) (s : Shared) (H H0 : Hp) (E : XK), Room k (A.deeper (envOfC qual (defScope st) s.heap.objs.size f cdv)) →
      PSs (cxOf CX0 P w K mg base N qual (defScope st) f cdv A outer s H E).nox (defBody st) (tS K H0 noB true noX g)) : DefOk P w K mg base (k + 1) x (spB K (runB np nl g)) :=
  ⟨f, fd, ps, hm, F.kp, hb, fnB F S hnp hN hbody⟩
end
/-! calls of such -/
def tBo (K : PySem.W.Frag) (i : Nat) (F : List D → Option (D × D)) (fl : List DE) : TE := fun σ H Q => ∃ δ v d0 A args o d, σ[i]? = some (some v) ∧ RepS K H noB σ δ ∧ dArgs fl δ = some args ∧ imms args = true ∧ Tree K H d0 v A ∧ A.Nodup ∧ F (d0 :: args) = some (o, d) ∧
  ∀ v' H1 H' A', Same H H1 → Same (hideA H1 A) H' → Tree K H' o v A' → A'.Nodup → (∀ a ∈ A', a ∈ A ∨ H1 a = none) → (∀ a, H' a = none → H1 a = none) → d.imm = true → Rep K H' noB d v' → Q v' H'
section
variable {X : Cx} {e : Expr} {es : List Expr} {pos apos p px cp : Pos} {fn m cn x : Str} {k i : Nat} {F : List D → Option (D × D)} {fl : List DE}
theorem pb_call (G : DefOk X.prog X.w X.K X.mg X.base k fn (spB X.K F)) (hr : Room k X.A) (hg : Gl X fn) (hx : PE X (.Name x px) (tVar i)) (ha : PAD X es fl) (hdb : (fn == ("__debug__" : Str)) = false := by decide)
    (he : starEach (.Name x px :: es) X.env = (false, eval (.Name x px) X.env) :: starEach es X.env := by rfl) (hpl : (backTo cp (starEach es X.env)).any (·.1) = false := by rfl) :
    PE X (.Call (.Name fn p) (.Name x px :: es) [] cp) (tBo X.K i F fl) := (pe_callD G hr hg (pa_cons hx ha he) hdb he hpl).imp fun σ H Q ⟨δ, v, d0, A, args, o, d, ev, S, e1, him, t, nd, eF, kk⟩ => by
  refine ⟨v, ev, noB, δ, args, .no, S, e1, fun vs H1 s1 r1 => ?_⟩
  show spB X.K F ((v :: vs) ++ []) H1 _ E0
  rw [List.append_nil]
  exact ⟨v, vs, d0, args, o, d, A, rfl, t.mono s1, nd, r1.imm args him, eF, fun v' H' A' => kk v' H1 H' A' s1⟩
theorem methB_of {C : Addr} {t : TA} (hn : PySem.W.nsIn X.K mainGlobals cn = some (some (.ref C))) (ht : ∀ σ H Q, tDs X.K (dArgs fl) σ H Q → t σ H Q) (σ : St) (H : Hp) (Q : VK) (h : tBo X.K i (mthF cn m F) fl σ H Q) : tMeth C m (spB X.K F) [] E0 (tVar i) t σ H Q := by
  obtain ⟨δ, v, d0, A, args, o, d, ev, S, e1, him, t, nd, eF, kk⟩ := h
  obtain ⟨a, ks, dd, rfl, hc, e5⟩ := mthF_some eF
  refine ⟨v, ev, ?_⟩
  have t' := t
  unfold Tree at t'
  obtain ⟨C', dx, fs, A1, ha, ⟨rfl, hn', hi, rfl⟩, rs, rfl⟩ := t'
  rw [hn] at hn'
  cases hn'
  refine ⟨a, dx, fs, rfl, ha, look_no hc, ht _ _ _ ⟨noB, δ, args, .no, S, e1, fun vs H1 s1 r1 => ?_⟩⟩
  show spB X.K F (V.ref a :: (vs ++ [])) H1 Q E0
  rw [List.append_nil]
  exact ⟨_, vs, _, args, o, d, _, rfl, t.mono s1, nd, r1.imm args him, e5, fun v' H' A' => kk v' H1 H' A' s1⟩
theorem pb_meth {pl : Sem Bool} (G : MethOk X.prog X.w X.K X.mg X.base k cn m (spB X.K F)) (hr : Room k X.A) (hx : PE X (.Name x px) (tVar i)) (ha : PAD X (e :: es) fl)
    (hst : starEach (e :: es) X.env = (false, eval e X.env) :: starEach es X.env := by rfl) (hpl : (backTo pos (starEach es X.env)).any (·.1) = false := by rfl)
    (ht : eval (.Call (.Attribute (.Name x px) m apos) (e :: es) [] pos) X.env = (do
      let ov ← eval (.Name x px) X.env
      standAt apos.atName
      let (f, first) ← holding [ov] (getMethod ov m pl)
      callWith pos f first (backTo pos (starEach (e :: es) X.env)) (backToKw pos (keywordEach [] X.env))) := by rfl) :
    PE X (.Call (.Attribute (.Name x px) m apos) (e :: es) [] pos) (tBo X.K i (mthF cn m F) fl) := by
  obtain ⟨C, f, fd, ps, hn, hc, hm, hb, ok⟩ := G.ok
  exact (pe_meth hx hc hm ok hr hb .nil pass0 ha hst hpl ht).imp (methB_of hn fun _ _ _ h => h)
variable {H0 : Hp} {B0 : Addr → Prop} {fr : Bool} {RX : XR}
def cB (i : Nat) (F : List D → Option (D × D)) (fl : List DE) (δ : SS) : Option (D × SS) := (dArgs fl (allV δ)).bind fun args => if imms args = true then (match δ[i]? with
  | some (some (.ow d0)) => (F (d0 :: args)).map fun z => (z.2, (dropBs i δ).set i (some (.ow z.1)))
  | _ => none) else none
theorem tBo_core {K : PySem.W.Frag} {σ : St} {H : Hp} {δ δ' : SS} {R : Nat → List Addr} {d : D} {Q : VK} (rs : RS K H0 B0 H σ δ R) (h : cB i F fl δ = some (d, δ')) (kk : ∀ v' H' R', RS K H0 B0 H' σ δ' R' → Stp R H R' H' → d.imm = true → Rep K H' noB d v' → Q v' H') : tBo K i F fl σ H Q := by
  unfold cB at h
  cases e1 : dArgs fl (allV δ) with
  | none => rw [e1] at h; cases h
  | some args =>
  rw [e1, Option.bind_some] at h
  split at h
  case isFalse => cases h
  case isTrue him =>
  split at h
  case h_2 => cases h
  case h_1 d0 ei =>
  cases eF : F (d0 :: args) with
  | none => rw [eF] at h; cases h
  | some z =>
  obtain ⟨o, d1⟩ := z
  rw [eF] at h
  cases h
  obtain ⟨v, ev, t, nd⟩ := rs.ow i d0 ei
  refine ⟨allV δ, v, d0, R i, args, o, d1, ev, rs.all, e1, him, t, nd, eF, fun v' H1 H' A' s1 s' t' nd' fr' th' im rv => ?_⟩
  have P := rs.moved s1 ei s' t' nd' fr' th'
  have es : σ.set i (some v) = σ := by
    refine List.ext_getElem? fun j => ?_
    by_cases hj : j = i
    · subst hj
      have hl : j < σ.length := (List.getElem?_eq_some_iff.mp ev).1
      rw [List.getElem?_set, ev]
      simp [hl]
    · rw [List.getElem?_set_ne (Ne.symm hj)]
  rw [es] at P
  exact kk v' H' _ P.1 P.2 im rv
def asgB (j i : Nat) (F : List D → Option (D × D)) (fl : List DE) : SS → Option Out := fun δ => (cB i F fl δ).map fun z => .nx (z.2.set j (some (.sh z.1)))
def retB (i : Nat) (F : List D → Option (D × D)) (fl : List DE) : SS → Option Out := fun δ => (cB i F fl δ).map fun z => .rb z.1 z.2
theorem s_asgB {j : Nat} {st : Stmt} (h : PAsg X st j (tBo X.K i F fl)) : PS X st (tS X.K H0 B0 fr RX (asgB j i F fl)) := PS.imp h fun D σ H ⟨δ, R, o, rs, q, k⟩ => by
  unfold asgB at q
  cases e1 : cB i F fl δ with
  | none => rw [e1] at q; cases q
  | some z =>
    rw [e1] at q
    cases q
    exact tBo_core rs e1 fun v' H' R' rs' st' im rv => k _ H' R' (rs'.setSh (rv.imm _ im)) st'
theorem s_retB (h : PE X e (tBo X.K i F fl)) : PS X (.Return (some e) pos) (tS X.K H0 B0 fr RX (retB i F fl)) := PS.imp (ps_ret h) fun D σ H ⟨δ, R, o, rs, q, k⟩ => by
  unfold retB at q
  cases e1 : cB i F fl δ with
  | none => rw [e1] at q; cases q
  | some z =>
    rw [e1] at q
    cases q
    exact tBo_core rs e1 fun v' H' R' rs' st' im rv => k v' σ H' R' rs' st' im rv
/-- return e, e unchangeable, the state kept -/
def retK (f : DE) : SS → Option Out := fun δ => (f (allV δ)).bind fun d => if d.imm = true then some (.rb d δ) else none
theorem s_retK {f : DE} (h : PD X e f) : PS X (.Return (some e) pos) (tS X.K H0 B0 fr RX (retK f)) := PS.imp (ps_ret h) fun D σ H ⟨δ, R, o, rs, q, k⟩ => by
  unfold retK at q
  cases e : f (allV δ) with
  | none => rw [e] at q; cases q
  | some d =>
    rw [e] at q
    have q' : (if d.imm = true then some (Out.rb d δ) else none) = some o := q
    split at q'
    · rename_i hi
      cases q'
      exact ⟨noB, allV δ, d, .no, rs.all, e, fun v H' s r => k v σ H' R (rs.mono s) (.same s) hi r⟩
    · cases q'
end
end L2

/-! ### E87: o.f = e; the book's change_to, a new book; append to what is thrown away -/
namespace L2
open PySem PySem.Spec PyProof.Rows
def putD (f : Str) (d : D) : List Str → List D → Option (List D)
  | k :: ks, x :: ds => if k = f then some (d :: ds) else (putD f d ks ds).map (x :: ·)
  | _, _ => none
theorem put_trees {K : PySem.W.Frag} {H : Hp} {f : Str} {d : D} {y : V} (t : Tree K H d y []) : ∀ {fs : List (Str × V)} {ds ds' : List D} {A : List Addr}, Trees K H ds (fs.map (·.2)) A → putD f d (fs.map (·.1)) ds = some ds' → (∃ A', Trees K H ds' ((putF f y fs).map (·.2)) A' ∧ A'.Sublist A) ∧ (putF f y fs).map (·.1) = fs.map (·.1) ∧ f ∈ fs.map (·.1)
  | [], ds, ds', A, h, q => by cases q
  | (k, x) :: fs, [], ds', A, h, q => by cases q
  | (k, x) :: fs, d0 :: ds, ds', A, h, q => by
    rw [List.map_cons] at h
    unfold Trees at h
    obtain ⟨x', r, A1, A2, e, t1, t2, rfl⟩ := h
    cases e
    have q : (if k = f then some (d :: ds) else (putD f d (fs.map (·.1)) ds).map (d0 :: ·)) = some ds' := q
    by_cases hk : k = f
    · rw [if_pos hk] at q
      cases q
      rw [show putF f y ((k, x) :: fs) = (if k = f then (k, y) :: fs else (k, x) :: putF f y fs) from rfl, if_pos hk]
      refine ⟨⟨[] ++ A2, ?_, List.sublist_append_right A1 A2⟩, rfl, by rw [hk]; exact List.mem_cons_self⟩
      rw [List.map_cons]
      unfold Trees
      exact ⟨y, _, [], A2, rfl, t, t2, rfl⟩
    · rw [if_neg hk] at q
      cases e2 : putD f d (fs.map (·.1)) ds with
      | none => rw [e2] at q; cases q
      | some ds2 =>
        rw [e2] at q
        cases q
        obtain ⟨⟨A', t', s'⟩, em, mm⟩ := put_trees t t2 e2
        rw [show putF f y ((k, x) :: fs) = (if k = f then (k, y) :: fs else (k, x) :: putF f y fs) from rfl, if_neg hk]
        refine ⟨⟨A1 ++ A', ?_, List.Sublist.append (List.Sublist.refl A1) s'⟩, by rw [List.map_cons, List.map_cons, em], List.mem_cons_of_mem _ mm⟩
        rw [List.map_cons]
        unfold Trees
        exact ⟨x, _, A1, A', rfl, t1, t', rfl⟩
def setFO (i : Nat) (f : Str) (g : DE) : SS → Option Out := fun δ => (g (allV δ)).bind fun d => if d.imm = true then (match δ[i]? with
  | some (some (SD.ow (D.obj x a ks ds))) => if ks.length < 1000 then (putD f d ks ds).map fun ds' => .nx ((dropBs i δ).set i (some (.ow (.obj x a ks ds')))) else none
  | _ => none) else none
section
variable {X : Cx} {e value : Expr} {es : List Expr} {pos pos' apos ap p px cp : Pos} {fn m cn x f : Str} {k i : Nat} {fl : List DE} {H0 : Hp} {B0 : Addr → Prop} {fr : Bool} {RX : XR} {g : DE}
theorem set_self {σ : St} {v : V} (ev : σ[i]? = some (some v)) : σ.set i (some v) = σ := by
  refine List.ext_getElem? fun j => ?_
  by_cases hj : j = i
  · subst hj
    have hl : j < σ.length := (List.getElem?_eq_some_iff.mp ev).1
    rw [List.getElem?_set, ev]
    simp [hl]
  · rw [List.getElem?_set_ne (Ne.symm hj)]
theorem s_setF (hx : PE X (.Name x px) (tVar i)) (hv : PD X value g) (hs : swapsWith value (some (.Attribute (.Name x px) f pos')) pos.line X.env = pure false := by rfl) :
    PS X (.Assign [.Attribute (.Name x px) f pos'] value pos) (tS X.K H0 B0 fr RX (setFO i f g)) := PS.imp (ps_fld hx hv hs) fun D σ H ⟨δ, R, o, rs, q, kk⟩ => by
  unfold setFO at q
  cases e1 : g (allV δ) with
  | none => rw [e1] at q; cases q
  | some d =>
  rw [e1, Option.bind_some] at q
  split at q
  case isFalse => cases q
  case isTrue him =>
  split at q
  case h_2 => cases q
  case h_1 x' a ks ds ei =>
  split at q
  case isFalse => cases q
  case isTrue hl =>
  cases e2 : putD f d ks ds with
  | none => rw [e2] at q; cases q
  | some ds' =>
  rw [e2] at q
  cases q
  obtain ⟨v, ev, t, nd⟩ := rs.ow i _ ei
  refine ⟨noB, allV δ, d, .no, rs.all, e1, fun y H1 s1 r1 => ⟨v, ev, ?_⟩⟩
  have t1 := t.mono s1
  unfold Tree at t1
  obtain ⟨C, dx, fs, A1, ha, ⟨rfl, hn, hi, rfl⟩, ts, eR⟩ := t1
  obtain ⟨⟨A', t', sub⟩, em, mm⟩ := put_trees (f := f) (r1.immTree d him) ts e2
  obtain ⟨cl, _, _, _, _, _, na⟩ := icls_of hi
  refine ⟨a, C, dx, fs, rfl, ha, cl, na f mm, by rw [List.length_map] at hl; exact hl, ?_⟩
  have mH : Mut (H1 a) := by rw [ha]; exact True.intro
  rw [eR] at nd
  obtain ⟨na1, nd1⟩ := List.nodup_cons.mp nd
  have aR : a ∈ R i := by rw [eR]; exact List.mem_cons_self
  have tn : Tree X.K (upd H1 a (.ins C dx (putF f y fs))) (.obj x' a (fs.map (·.1)) ds') (.ref a) (a :: A') := by
    unfold Tree
    refine ⟨C, dx, putF f y fs, A', upd_same, ⟨rfl, hn, hi, em⟩, ?_, rfl⟩
    refine Trees.keep (Keep.upd (K := X.K) (B := fun z => z = a) rfl mH).i ds' t' fun b hb o z => ?_
    rw [upd_ne fun w => na1 (by rw [← w]; exact sub.subset hb)]
    exact z
  have P := rs.moved s1 ei (H2 := upd H1 a (.ins C dx (putF f y fs))) (A := a :: A') (fun b o z => by
      by_cases hb : b ∈ R i
      · rw [hideA_in hb] at z; cases z
      · rw [hideA_out hb] at z
        rw [upd_ne fun w => hb (by rw [w]; exact aR)]
        exact z) tn (List.nodup_cons.mpr ⟨fun z => na1 (sub.subset z), nd1.sublist sub⟩) (fun b hb => .inl (by
        rw [eR]
        rcases List.mem_cons.mp hb with z | z
        · rw [z]; exact List.mem_cons_self
        · exact List.mem_cons_of_mem _ (sub.subset z))) fun b z => by
    by_cases hb : b = a
    · subst hb; rw [upd_same] at z; cases z
    · rw [upd_ne hb] at z; exact z
  rw [set_self ev] at P
  exact kk σ _ _ P.1 P.2
/-! ### the book -/
def bkKs : List Str := ["thing_count", "entries", "earlier", "next_number"]
def spC (K : PySem.W.Frag) : Sp := fun vs H Q _ => ∃ (v u : V) (x : Str) (a : Addr) (m n : Int) (es ls : List D) (d : D) (A A2 : List Addr), vs = [v, u] ∧ Tree K H (.obj x a bkKs [.int m, .lst es, .lst ls, .int n]) v A ∧ Tree K H d u A2 ∧ (A ++ A2).Nodup ∧ ls.length < sizeLine ∧
  ∀ H' A', Same (hideA H A) H' → Tree K H' (.obj x a bkKs [.int m, d, .lst (ls ++ [.lst es]), .int n]) v A' → A'.Nodup → (∀ b ∈ A', b ∈ A ∨ b ∈ A2) → (∀ b, H' b = none → H b = none) → Q .non H'
def bk4 {α : Type} (a b c d : α) : List (Str × α) := [("thing_count", a), ("entries", b), ("earlier", c), ("next_number", d)]
theorem bk4_ent {a b c d : V} : (bk4 a b c d).lookup ("entries" : Str) = some b := by kernel_rfl
theorem bk4_ear {a b c d : V} : (bk4 a b c d).lookup ("earlier" : Str) = some c := by kernel_rfl
theorem bk4_put {a b c d y : V} : putF "entries" y (bk4 a b c d) = bk4 a y c d := by kernel_rfl
theorem bk4_ks {α : Type} {a b c d : α} : (bk4 a b c d).map (·.1) = bkKs := rfl
theorem bk4_new {a b c d : V} : putF "next_number" d (putF "earlier" c (putF "entries" b (putF "thing_count" a []))) = bk4 a b c d := by kernel_rfl
theorem four {α : Type} {fs : List (Str × α)} (h : fs.map (·.1) = bkKs) : ∃ a b c d, fs = bk4 a b c d := by
  unfold bkKs at h
  match fs, h with
  | [(k1, a), (k2, b), (k3, c), (k4, d)], h =>
    simp only [List.map_cons, List.map_nil, List.cons.injEq, and_true] at h
    obtain ⟨rfl, rfl, rfl, rfl⟩ := h
    exact ⟨a, b, c, d, rfl⟩
  | [], h => cases h
  | [_], h => simp at h
  | [_, _], h => simp at h
  | [_, _, _], h => simp at h
  | _ :: _ :: _ :: _ :: _ :: _, h => simp at h
theorem book_tree {K : PySem.W.Frag} {H : Hp} {x : Str} {a : Addr} {m n : Int} {d1 d2 : D} {v : V} {A : List Addr} (t : Tree K H (.obj x a bkKs [.int m, d1, d2, .int n]) v A) :
    ∃ C dx u1 u2 A1 A2, v = .ref a ∧ H a = some (.ins C dx (bk4 (.int m) u1 u2 (.int n))) ∧ PySem.W.nsIn K mainGlobals x = some (some (.ref C)) ∧ iclsB K C bkKs = true ∧ Tree K H d1 u1 A1 ∧ Tree K H d2 u2 A2 ∧ A = a :: (A1 ++ A2) := by
  unfold Tree at t
  obtain ⟨C, dx, fs, A0, ha, ⟨rfl, hn, hi, hk⟩, ts, rfl⟩ := t
  obtain ⟨w1, w2, w3, w4, rfl⟩ := four hk
  have ts : Trees K H [.int m, d1, d2, .int n] [w1, w2, w3, w4] A0 := ts
  unfold Trees at ts
  obtain ⟨z1, r1, B1, C1, e1, t1, ts, rfl⟩ := ts
  cases e1
  unfold Trees at ts
  obtain ⟨z2, r2, B2, C2, e2, t2, ts, rfl⟩ := ts
  cases e2
  unfold Trees at ts
  obtain ⟨z3, r3, B3, C3, e3, t3, ts, rfl⟩ := ts
  cases e3
  unfold Trees at ts
  obtain ⟨z4, r4, B4, C4, e4, t4, ts, rfl⟩ := ts
  cases e4
  obtain ⟨_, rfl⟩ := ts
  obtain ⟨rfl, rfl⟩ := t1
  obtain ⟨rfl, rfl⟩ := t4
  exact ⟨C, dx, _, _, B2, B3, rfl, ha, hn, hi, t2, t3, by simp⟩
theorem book_mk {K : PySem.W.Frag} {H : Hp} {x : Str} {a C dx : Addr} {m n : Int} {d1 d2 : D} {u1 u2 : V} {A1 A2 : List Addr} (ha : H a = some (.ins C dx (bk4 (.int m) u1 u2 (.int n)))) (hn : PySem.W.nsIn K mainGlobals x = some (some (.ref C))) (hi : iclsB K C bkKs = true)
    (t1 : Tree K H d1 u1 A1) (t2 : Tree K H d2 u2 A2) : Tree K H (.obj x a bkKs [.int m, d1, d2, .int n]) (.ref a) (a :: (A1 ++ A2)) := by
  unfold Tree
  refine ⟨C, dx, _, A1 ++ A2, ha, ⟨rfl, hn, hi, rfl⟩, ?_, rfl⟩
  show Trees K H [.int m, d1, d2, .int n] [.int m, u1, u2, .int n] (A1 ++ A2)
  have e : A1 ++ A2 = [] ++ (A1 ++ (A2 ++ ([] ++ []))) := by simp
  rw [e]
  exact ⟨_, _, [], _, rfl, ⟨rfl, rfl⟩, ⟨_, _, A1, _, rfl, t1, ⟨_, _, A2, _, rfl, t2, ⟨_, _, [], [], rfl, ⟨rfl, rfl⟩, ⟨rfl, rfl⟩, rfl⟩, rfl⟩, rfl⟩, rfl⟩
end
section
variable {P : Program} {w : World} {K : PySem.W.Frag} {mg : Str → Option Value} {base : Heap}
theorem fnC {x qual : Str} {st : Stmt} {f : Addr} {fd : FuncData} {N ps : List Str} {k : Nat} (F : Fun K x qual st f fd) (S : FnScope N ps (defScope st)) (hnp : ps.length = 2) (hN : N.length = 2)
    (hbody : ∀ (cdv : Value) (A : Around) (outer : List Env) (s : Shared) (H : Hp) (E : XK), Room k (A.deeper (envOfC qual (defScope st) s.heap.objs.size f cdv)) →
      PSs (cxOf CX0 P w K mg base N qual (defScope st) f cdv A outer s H E).nox (defBody st) (tSeq (tDrop (tBM K "list" rAppend (tFld K (tVar 0) "earlier") (tCons (tFld K (tVar 0) "entries") tNil))) (sFld K (tVar 0) (tVar 1) "entries"))) : FnOk P w K mg base CX0 (k + 1) f fd ps (spC K) := by
  refine F.ok S (fun vs H Q E h => ?_) fun cdv A outer s H vs Q E hr h => ?_
  · obtain ⟨v, u, x, a, m, n, es, ls, d, A, A2, rfl, _⟩ := h
    exact hnp.symm
  · obtain ⟨v, u, x, a, m, n, es, ls, d, A', A2, rfl, t, t2, nd, hl, kk⟩ := h
    refine ⟨_, hbody cdv A outer s H E hr, ?_⟩
    obtain ⟨C, dx, u1, u2, B1, B2, rfl, ha, hn, hi, t3, t4, rfl⟩ := book_tree t
    obtain ⟨cl, _, _, _, _, _, na⟩ := icls_of hi
    have n1 : NoAttr K C "entries" := na _ (by decide +kernel)
    have n2 : NoAttr K C "earlier" := na _ (by decide +kernel)
    unfold Tree at t4
    obtain ⟨l, xs, B3, rfl, hls, ts, rfl⟩ := t4
    have es0 : start N [V.ref a, u] = [some (.ref a), some u] := by
      unfold start
      rw [hN]
      rfl
    rw [es0]
    have nal : a ≠ l := fun z => by rw [z] at ha; rw [hls] at ha; cases ha
    refine ⟨_, rfl, a, C, dx, _, _, rfl, ha, cl, n2, bk4_ear, .inl ⟨rfl, xs, SqL.of hls⟩, _, rfl, a, C, dx, _, _, rfl, ha, cl, n1, bk4_ent, l, xs, u1, rfl, rfl, hls, by rw [← Trees.length ts]; exact hl, ?_⟩
    refine ⟨_, rfl, _, rfl, a, C, dx, _, rfl, by rw [upd_ne nal]; exact ha, cl, n1, (by show 4 < 1000; decide), ?_⟩
    rw [bk4_put]
    have nd' := nd
    obtain ⟨ndA, ndA2, ndd⟩ := List.nodup_append.mp nd
    obtain ⟨na1, ndB⟩ := List.nodup_cons.mp ndA
    obtain ⟨ndB1, ndB2, ndBd⟩ := List.nodup_append.mp ndB
    obtain ⟨nl3, ndB3⟩ := List.nodup_cons.mp ndB2
    have mHl : Mut (H l) := by rw [hls]; exact True.intro
    have mHa : Mut (upd H l (.lst (xs ++ [u1])) a) := by rw [upd_ne nal, ha]; exact True.intro
    have kI : KeepI K H (upd (upd H l (.lst (xs ++ [u1]))) a (.ins C dx (bk4 (.int m) u (.ref l) (.int n)))) := by
      have k1 := (Keep.upd (K := K) (B := fun z => z = l) (o := .lst (xs ++ [u1])) rfl mHl).i
      have k2 := (Keep.upd (K := K) (B := fun z => z = a) (o := .ins C dx (bk4 (.int m) u (.ref l) (.int n))) rfl mHa).i
      exact ⟨fun b ys z => k2.st b ys (k1.st b ys z), fun b ys z => k2.sf b ys (k1.sf b ys z)⟩
    have ne : ∀ b, b ≠ a → b ≠ l → ∀ o, H b = some o → (upd (upd H l (.lst (xs ++ [u1]))) a (.ins C dx (bk4 (.int m) u (.ref l) (.int n)))) b = some o := fun b h1 h2 o z => by rw [upd_ne h1, upd_ne h2]; exact z
    have mA : ∀ b ∈ B1, b ≠ a ∧ b ≠ l := fun b hb => ⟨fun z => na1 (by rw [← z]; exact List.mem_append_left _ hb), fun z => ndBd b hb l List.mem_cons_self z⟩
    have mB : ∀ b ∈ B3, b ≠ a ∧ b ≠ l := fun b hb => ⟨fun z => na1 (by rw [← z]; exact List.mem_append_right _ (List.mem_cons_of_mem _ hb)), fun z => nl3 (by rw [← z]; exact hb)⟩
    have mC : ∀ b ∈ A2, b ≠ a ∧ b ≠ l := fun b hb => ⟨fun z => ndd a List.mem_cons_self b hb z.symm, fun z => ndd l (List.mem_cons_of_mem _ (List.mem_append_right _ List.mem_cons_self)) b hb z.symm⟩
    have pm : (a :: (A2 ++ (l :: (B3 ++ B1)))).Perm ((a :: (B1 ++ (l :: B3))) ++ A2) := by
      refine List.Perm.cons a ?_
      refine List.perm_append_comm.trans (List.Perm.append_right A2 ?_)
      exact (List.perm_append_comm (l₁ := l :: B3) (l₂ := B1))
    refine kk _ (a :: (A2 ++ (l :: (B3 ++ B1)))) (fun b o z => ?_) (book_mk upd_same hn hi (Tree.keep kI d t2 fun b hb o z => ne b (mC b hb).1 (mC b hb).2 o z) ?_) (pm.nodup_iff.mpr nd') (fun b hb => ?_) fun b z => ?_
    · by_cases hb : b ∈ a :: (B1 ++ (l :: B3))
      · rw [hideA_in hb] at z; cases z
      · rw [hideA_out hb] at z
        exact ne b (fun w => hb (by rw [w]; exact List.mem_cons_self)) (fun w => hb (by rw [w]; exact List.mem_cons_of_mem _ (List.mem_append_right _ List.mem_cons_self))) o z
    · unfold Tree
      exact ⟨l, xs ++ [u1], B3 ++ B1, rfl, by rw [upd_ne nal.symm, upd_same], Trees.snoc (Trees.keep kI ls ts fun b hb o z => ne b (mB b hb).1 (mB b hb).2 o z) (Tree.keep kI (.lst es) t3 fun b hb o z => ne b (mA b hb).1 (mA b hb).2 o z), rfl⟩
    · exact List.mem_append.mp (pm.subset hb)
    · by_cases h1 : b = a
      · subst h1; rw [upd_same] at z; cases z
      · rw [upd_ne h1] at z
        by_cases h2 : b = l
        · subst h2; rw [upd_same] at z; cases z
        · rw [upd_ne h2] at z; exact z
/-- Book(many) -/
def spI (K : PySem.W.Frag) : Sp := fun vs H Q _ => ∃ (a C dx : Addr) (m : Int), vs = [.ref a, .int m] ∧ H a = some (.ins C dx []) ∧ iclsB K C bkKs = true ∧
  ∀ l1 l2 H', H l1 = none → H l2 = none → l1 ≠ l2 → H' a = some (.ins C dx (bk4 (.int m) (.ref l1) (.ref l2) (.int 0))) → H' l1 = some (.lst []) → H' l2 = some (.lst []) → (∀ b o, b ≠ a → H b = some o → H' b = some o) → (∀ b, H' b = none → H b = none) → Q .non H'
theorem fnI {x qual : Str} {st : Stmt} {f : Addr} {fd : FuncData} {N ps : List Str} {k : Nat} (F : Fun K x qual st f fd) (S : FnScope N ps (defScope st)) (hnp : ps.length = 2) (hN : N.length = 2)
    (hbody : ∀ (cdv : Value) (A : Around) (outer : List Env) (s : Shared) (H : Hp) (E : XK), Room k (A.deeper (envOfC qual (defScope st) s.heap.objs.size f cdv)) →
      PSs (cxOf CX0 P w K mg base N qual (defScope st) f cdv A outer s H E).nox (defBody st) (tSeq (sFld K (tVar 0) (tVar 1) "thing_count") (tSeq (sFld K (tVar 0) (tLst tNil) "entries") (tSeq (sFld K (tVar 0) (tLst tNil) "earlier") (sFld K (tVar 0) (tC (.int 0)) "next_number"))))) : FnOk P w K mg base CX0 (k + 1) f fd ps (spI K) := by
  refine F.ok S (fun vs H Q E h => ?_) fun cdv A outer s H vs Q E hr h => ?_
  · obtain ⟨a, C, dx, m, rfl, _⟩ := h
    exact hnp.symm
  · obtain ⟨a, C, dx, m, rfl, ha, hi, kk⟩ := h
    refine ⟨_, hbody cdv A outer s H E hr, ?_⟩
    obtain ⟨cl, _, _, _, _, _, na⟩ := icls_of hi
    have n0 : NoAttr K C "thing_count" := na _ (by decide +kernel)
    have n1 : NoAttr K C "entries" := na _ (by decide +kernel)
    have n2 : NoAttr K C "earlier" := na _ (by decide +kernel)
    have n3 : NoAttr K C "next_number" := na _ (by decide +kernel)
    have es0 : start N [V.ref a, V.int m] = [some (.ref a), some (.int m)] := by
      unfold start
      rw [hN]
      rfl
    rw [es0]
    have lp : ∀ (g : Str) (y : V) (fs : List (Str × V)) (n : Nat), fs.length ≤ n → (putF g y fs).length ≤ n + 1 := fun g y fs n h => Nat.le_trans (length_putF g y fs) (by omega)
    have q0 : ([] : List (Str × V)).length ≤ 0 := Nat.le_refl 0
    have q1 := lp "thing_count" (.int m) [] 0 q0
    refine ⟨_, rfl, _, rfl, a, C, dx, _, rfl, ha, cl, n0, (by show 0 < 1000; decide), ?_⟩
    refine ⟨by show 0 ≤ sizeLine; decide, fun l1 h1 => ?_⟩
    have al1 : a ≠ l1 := fun z => by rw [← z, upd_same] at h1; cases h1
    have q2 := lp "entries" (.ref l1) _ 1 q1
    refine ⟨_, rfl, a, C, dx, _, rfl, by rw [upd_ne al1, upd_same], cl, n1, by omega, ?_⟩
    refine ⟨by show 0 ≤ sizeLine; decide, fun l2 h2 => ?_⟩
    have al2 : a ≠ l2 := fun z => by rw [← z, upd_same] at h2; cases h2
    have q3 := lp "earlier" (.ref l2) _ 2 q2
    refine ⟨_, rfl, a, C, dx, _, rfl, by rw [upd_ne al2, upd_same], cl, n2, by omega, ?_⟩
    refine ⟨_, rfl, a, C, dx, _, rfl, by rw [upd_same], cl, n3, by omega, ?_⟩
    have l12 : l2 ≠ l1 := fun z => by rw [z, upd_ne al1.symm, upd_same] at h2; cases h2
    rw [upd_ne al1.symm] at h1
    rw [upd_ne al2.symm, upd_ne l12, upd_ne al2.symm] at h2
    refine kk l1 l2 _ h1 h2 l12.symm ?_ ?_ ?_ (fun b o hb z => ?_) fun b z => ?_
    · rw [upd_same]
      exact congrArg (fun z => some (HO.ins C dx z)) bk4_new
    · rw [upd_ne al1.symm, upd_ne al1.symm, upd_ne l12.symm, upd_ne al1.symm, upd_same]
    · rw [upd_ne al2.symm, upd_ne al2.symm, upd_same]
    · have b1 : b ≠ l1 := fun w => by rw [w, h1] at z; cases z
      have b2 : b ≠ l2 := fun w => by rw [w, h2] at z; cases z
      rw [upd_ne hb, upd_ne hb, upd_ne b2, upd_ne hb, upd_ne b1, upd_ne hb]
      exact z
    · by_cases hb : b = a
      · rw [hb, upd_same] at z; cases z
      · rw [upd_ne hb, upd_ne hb] at z
        by_cases b2 : b = l2
        · rw [b2, upd_same] at z; cases z
        · rw [upd_ne b2, upd_ne hb] at z
          by_cases b1 : b = l1
          · rw [b1, upd_same] at z; cases z
          · rw [upd_ne b1, upd_ne hb] at z
            exact z
end
structure NewOk (P : Program) (w : World) (K : PySem.W.Frag) (mg : Str → Option Value) (base : Heap) (k : Nat) (cn : Str) : Prop where
  ok : ∃ (C fi : Addr) (fd : FuncData) (ps : List Str), Mk K C fi ∧ mg cn = some (.ref C) ∧ PySem.W.nsIn K mainGlobals cn = some (some (.ref C)) ∧ iclsB K C bkKs = true ∧ Binds K fd ps [] ∧ FnOk P w K mg base CX0 k fi fd ps (spI K)
/-! the calls -/
def chgO (i : Nat) (cn : Str) (g : DE) : SS → Option Out := fun δ => (g (allV δ)).bind fun d => match δ[i]? with
  | some (some (SD.ow (D.obj x a ks [.int m, .lst es, .lst ls, .int n]))) => if x = cn ∧ ks = bkKs ∧ ls.length < sizeLine then some (.nx ((dropBs i δ).set i (some (.ow (.obj x a ks [.int m, d, .lst (ls ++ [.lst es]), .int n]))))) else none
  | _ => none
noncomputable def newA (r : Addr → Option Out) : Option Out := @ite _ (∀ a, r a = r 0) (Classical.propDecidable _) (r 0) none
theorem newA_some {r : Addr → Option Out} {o : Out} (h : newA r = some o) (a : Addr) : r a = some o := by
  unfold newA at h
  split at h
  · rename_i e
    rw [e a]; exact h
  · cases h
theorem newA_eq {r : Addr → Option Out} {o : Out} (h : ∀ a, r a = some o) : newA r = some o := by
  unfold newA
  rw [if_pos fun a => by rw [h a, h 0]]
  exact h 0
noncomputable def newO (i : Nat) (cn : Str) (g : DE) (h : SS → Option Out) : SS → Option Out := fun δ => (g (allV δ)).bind fun d => match d with
  | .int m => newA fun a => h (δ.set i (some (.ow (.obj cn a bkKs [.int m, .lst [], .lst [], .int 0]))))
  | _ => none
section
variable {X : Cx} {e value : Expr} {es : List Expr} {pos pos' apos ap p px cp : Pos} {fn m cn x f : Str} {k i : Nat} {fl : List DE} {H0 : Hp} {B0 : Addr → Prop} {fr : Bool} {RX : XR} {g : DE}
theorem s_chg {pl : Sem Bool} {m : Str} (hm : bkKs.contains m = false) (G : MethOk X.prog X.w X.K X.mg X.base k cn m (spC X.K)) (hr : Room k X.A) (hx : PE X (.Name x px) (tVar i)) (he : PN X e g)
    (hst : starEach [e] X.env = (false, eval e X.env) :: starEach [] X.env := by rfl)
    (ht : eval (.Call (.Attribute (.Name x px) m apos) [e] [] cp) X.env = (do
      let ov ← eval (.Name x px) X.env
      standAt apos.atName
      let (f, first) ← holding [ov] (getMethod ov m pl)
      callWith cp f first (backTo cp (starEach [e] X.env)) (backToKw cp (keywordEach [] X.env))) := by rfl) (hs : swapsWith (.Call (.Attribute (.Name x px) m apos) [e] [] cp) none pos.line X.env = pure false := by rfl) :
    PS X (.Expr (.Call (.Attribute (.Name x px) m apos) [e] [] cp) pos) (tS X.K H0 B0 fr RX (chgO i cn g)) := by
  obtain ⟨C, f, fd, ps, hn, hc, hm', hb, ok⟩ := G.ok
  refine PS.imp (ps_expr (pe_meth hx hc hm' ok hr hb .nil pass0 (pa_cons he pa_nil hst) hst rfl ht) hs) fun D σ H ⟨δ, R, o, rs, q, kk⟩ => ?_
  unfold chgO at q
  cases e1 : g (allV δ) with
  | none => rw [e1] at q; cases q
  | some d =>
  rw [e1, Option.bind_some] at q
  split at q
  case h_2 => cases q
  case h_1 x' a ks m0 es0 ls n0 ei =>
  split at q
  case isFalse => cases q
  case isTrue hcd =>
  obtain ⟨rfl, rfl, hl⟩ := hcd
  cases q
  obtain ⟨v, ev, t, nd⟩ := rs.ow i _ ei
  refine ⟨v, ev, ?_⟩
  obtain ⟨C', dx, u1, u2, A1, A2, rfl, ha, hn', hi, _, _, eR⟩ := book_tree t
  rw [hn] at hn'
  cases hn'
  refine ⟨a, dx, _, rfl, ha, look_no (by rw [bk4_ks]; exact hm), allV δ, d, rs.all, e1, fun u H1 Au s1 tu ndu fu => ?_⟩
  have du : (R i ++ Au).Nodup := List.nodup_append.mpr ⟨nd, ndu, fun b hb c hc z => by
    subst z
    obtain ⟨o, q, _⟩ := rs.held i b hb
    rw [fu b hc] at q; cases q⟩
  refine ⟨_, u, x', a, m0, n0, es0, ls, d, R i, Au, rfl, t.mono s1, tu, du, hl, fun H' A' s' t' nd' sub th => ?_⟩
  have P := rs.moved (Same.refl H) ei (H2 := H') (A := A') (fun b o z => by
      by_cases hb : b ∈ R i
      · rw [hideA_in hb] at z; cases z
      · rw [hideA_out hb] at z
        exact s' b o (by rw [hideA_out hb]; exact s1 b o z)) t' nd' (fun b hb => (sub b hb).imp id fun z => fu b z) fun b z => s1.free (th b z)
  rw [set_self ev] at P
  exact kk σ _ _ P.1 P.2
theorem ss_new {sts : List Stmt} {h : SS → Option Out} (hN : X.N.Nodup) (hi : X.N[i]? = some x) (hxl : Loc X.env.scope x) (G : NewOk X.prog X.w X.K X.mg X.base k cn) (hr : Room (k + 1) X.A) (hg : Gl X cn) (he : PD X e g) (hh : PSs X sts (tS X.K H0 B0 fr RX h)) (hdb : (cn == ("__debug__" : Str)) = false := by decide) (hst : starEach [e] X.env = (false, eval e X.env) :: starEach [] X.env := by rfl)
    (hs : swapsWith (.Call (.Name cn p) [e] [] cp) (some (.Name x px)) pos.line X.env = pure false := by rfl) (hf : X.fn x = true ∨ X.env.scope.names.lookup x = some .local := by first | exact .inl rfl | exact .inr rfl | assumption) :
    PSs X (.Assign [.Name x px] (.Call (.Name cn p) [e] [] cp) pos :: sts) (tS X.K H0 B0 fr RX (newO i cn g h)) := by
  obtain ⟨C, fi, fd, ps, M, hm, hn, hc, hb, F⟩ := G.ok
  refine (pss_cons (ps_set hN hi hxl (pe_make M F hr hg hm hb .nil pass0 (pa_cons he pa_nil hst) hdb hst rfl) hs hf) hh).imp fun D σ H ⟨δ, R, o, rs, q, kk⟩ => ?_
  unfold newO at q
  cases e1 : g (allV δ) with
  | none => rw [e1] at q; cases q
  | some d =>
  rw [e1, Option.bind_some] at q
  split at q
  case h_2 => cases q
  case h_1 m0 =>
  refine ⟨noB, allV δ, _, .no, rs.all, e1, fun v H1 s1 r1 => ?_⟩
  have r1 : v = .int m0 := r1
  subst r1
  intro a dx na ndx nax
  refine ⟨a, C, dx, m0, rfl, upd_same, hc, fun l1 l2 H' h1 h2 l12 ha hl1 hl2 kp th => ⟨rfl, ?_⟩⟩
  have al1 : a ≠ l1 := fun z => by rw [← z, upd_same] at h1; cases h1
  have al2 : a ≠ l2 := fun z => by rw [← z, upd_same] at h2; cases h2
  have fr1 : ∀ b, upd (upd H1 dx (.own a)) a (.ins C dx []) b = none → H1 b = none := fun b z => by
    by_cases hb : b = a
    · rw [hb]; exact na
    · rw [upd_ne hb] at z
      by_cases hd : b = dx
      · rw [hd]; exact ndx
      · rw [upd_ne hd] at z; exact z
  have sm : Same H H' := fun b o z => by
    have z1 := s1 b o z
    have b1 : b ≠ a := fun w => by rw [w, na] at z1; cases z1
    have b2 : b ≠ dx := fun w => by rw [w, ndx] at z1; cases z1
    exact kp b o b1 (by rw [upd_ne b1, upd_ne b2]; exact z1)
  have tr : Tree X.K H' (.obj cn a bkKs [.int m0, .lst [], .lst [], .int 0]) (.ref a) (a :: ([l1] ++ [l2])) := by
    refine book_mk ha hn hc ?_ ?_
    · unfold Tree
      exact ⟨l1, [], [], rfl, hl1, ⟨rfl, rfl⟩, rfl⟩
    · unfold Tree
      exact ⟨l2, [], [], rfl, hl2, ⟨rfl, rfl⟩, rfl⟩
  have ndA : (a :: ([l1] ++ [l2])).Nodup := by
    simp [al1, al2, l12]
  have frA : ∀ b ∈ a :: ([l1] ++ [l2]), H b = none := fun b hb => by
    rcases List.mem_cons.mp hb with z | z
    · rw [z]; exact s1.free na
    · rcases List.mem_append.mp z with z | z
      · rw [List.mem_singleton.mp z]; exact s1.free (fr1 _ h1)
      · rw [List.mem_singleton.mp z]; exact s1.free (fr1 _ h2)
  refine ⟨_, setR R i (a :: ([l1] ++ [l2])), o, rs.setOw (i := i) sm tr ndA frA, newA_some q a, ?_⟩
  refine kk.back ⟨fun b o h _ => sm b o h, fun r b z => ?_, fun b z => s1.free (fr1 b (th b z))⟩
  by_cases hr : r = i
  · subst hr; rw [setR_same] at z; exact .inr (frA b z)
  · rw [setR_ne hr] at z; exact .inl ⟨r, z⟩
end
/-! xs.append(e) of a new list that nobody holds -/
def exApp (f : DE) (fl : List DE) : SS → Option Out := fun δ => (f (allV δ)).bind fun d => match d with
  | .lst ds => if ds.length < sizeLine then (dArgs fl (allV δ)).bind fun args => if args.length = 1 then some (.nx δ) else none else none
  | _ => none
section
variable {X : Cx} {o e : Expr} {pos ap cp : Pos} {fl : List DE} {f : DE} {H0 : Hp} {B0 : Addr → Prop} {fr : Bool} {RX : XR}
theorem s_exApp (ho : PN X o f) (ha : PAD X [e] fl) (hbase : attributeBase o "append" X.env (eval o X.env) = eval o X.env := by rfl)
    (hfew : ((backTo cp (starEach [e] X.env)).all (fun x => !x.1) && (backToKw cp (keywordEach [] X.env)).all (fun x => x.1.isSome) && decide ([e].length + ([] : List Keyword).length + (if ([] : List Keyword).isEmpty then 0 else 1) < 30)) = true := by rfl)
    (hline : (ap.endLine == cp.line) = true := by rfl) (hs : starEach [e] X.env = (false, eval e X.env) :: starEach [] X.env := by rfl) (hsw : swapsWith (.Call (.Attribute o "append" ap) [e] [] cp) none pos.line X.env = pure false := by rfl) :
    PS X (.Expr (.Call (.Attribute o "append" ap) [e] [] cp) pos) (tS X.K H0 B0 fr RX (exApp f fl)) :=
  PS.imp (ps_expr (pe_bm PySem.F.plainAttrs_list PySem.F.slot_list_append PySem.F.type_list_append mt_append ho ha hbase hfew hline hs rfl) hsw) fun D σ H ⟨δ, R, o, rs, q, k⟩ => by
    unfold exApp at q
    cases e1 : f (allV δ) with
    | none => rw [e1] at q; cases q
    | some d =>
    rw [e1, Option.bind_some] at q
    split at q
    case h_2 => cases q
    case h_1 ds =>
    split at q
    case isFalse => cases q
    case isTrue hl =>
    cases e2 : dArgs fl (allV δ) with
    | none => rw [e2] at q; cases q
    | some args =>
    rw [e2, Option.bind_some] at q
    split at q
    case isFalse => cases q
    case isTrue hl1 =>
    cases q
    refine ⟨allV δ, _, rs.all, e1, fun v H1 A s1 t nd fA => ?_⟩
    unfold Tree at t
    obtain ⟨a, xs, A1, rfl, ha, ts, rfl⟩ := t
    refine ⟨.inl ⟨rfl, xs, SqL.of ha⟩, noB, allV δ, args, .no, rs.all.mono s1, e2, fun vs H2 s2 r2 => ?_⟩
    obtain ⟨y, rfl⟩ : ∃ y, vs = [y] := by
      have := r2.length
      rw [hl1] at this
      match vs, this with
      | [y], _ => exact ⟨y, rfl⟩
    refine ⟨a, xs, y, rfl, rfl, s2 _ _ ha, by rw [← Trees.length ts]; exact hl, ?_⟩
    have sm : Same H (upd H2 a (.lst (xs ++ [y]))) := fun b o z => by
      rw [upd_ne fun w => by rw [w, fA a List.mem_cons_self] at z; cases z]
      exact s2 b o (s1 b o z)
    exact k σ _ R (rs.mono sm) (.same sm)
end
end L2

theorem L2.eraseIdx_map {α β : Type} (f : α → β) (l : List α) (n : Nat) : (l.eraseIdx n).map f = (l.map f).eraseIdx n := by
  induction l generalizing n with
  | nil => rfl
  | cons x r ih => cases n with
    | zero => rfl
    | succ n => simp [ih]
/-! ### E88: xs.append(ys.pop(k)) of two owned lists of ints -/
namespace L2
open PySem PySem.Spec PyProof.Rows
def popAppK (i j : Nat) (fk : DE) : SS → Option Out := fun δ => (fk (allV δ)).bind fun dk => match dk, δ[i]?, δ[j]? with
  | .int p, some (some (.ow (.lst ds))), some (some (.ow (.lst es))) => if ds.length < sizeLine ∧ (intsO ds).isSome = true ∧ (intsO es).isSome = true ∧ 0 ≤ p ∧ p < es.length ∧ es.length < sizeLine then (match es[p.toNat]? with
    | some (.int c) => some (.nx (popS i j c ds (es.eraseIdx p.toNat) δ))
    | _ => none) else none
  | _, _, _ => none
section
variable {X : Cx} {H0 : Hp} {B0 : Addr → Prop} {fr : Bool} {RX : XR} {e : Expr} {pos ap cp ap2 cp2 : Pos} {x y : Str} {px py : Pos}
theorem s_popAppK {i j : Nat} {fk : DE} (hij : i ≠ j) (hx : PE X (.Name x px) (tVar i)) (hy : PE X (.Name y py) (tVar j)) (hk : PD X e fk)
    (hbase2 : attributeBase (.Name y py) "pop" X.env (eval (.Name y py) X.env) = eval (.Name y py) X.env := by rfl)
    (hfew2 : ((backTo cp2 (starEach [e] X.env)).all (fun x => !x.1) && (backToKw cp2 (keywordEach [] X.env)).all (fun x => x.1.isSome) && decide ([e].length + ([] : List Keyword).length + (if ([] : List Keyword).isEmpty then 0 else 1) < 30)) = true := by rfl)
    (hline2 : (ap2.endLine == cp2.line) = true := by rfl) (hs2 : starEach [e] X.env = (false, eval e X.env) :: starEach [] X.env := by rfl)
    (hbase : attributeBase (.Name x px) "append" X.env (eval (.Name x px) X.env) = eval (.Name x px) X.env := by rfl)
    (hfew : ((backTo cp (starEach [.Call (.Attribute (.Name y py) "pop" ap2) [e] [] cp2] X.env)).all (fun x => !x.1) && (backToKw cp (keywordEach [] X.env)).all (fun x => x.1.isSome) && decide ([Expr.Call (.Attribute (.Name y py) "pop" ap2) [e] [] cp2].length + ([] : List Keyword).length + (if ([] : List Keyword).isEmpty then 0 else 1) < 30)) = true := by rfl)
    (hline : (ap.endLine == cp.line) = true := by rfl) (hs : starEach [.Call (.Attribute (.Name y py) "pop" ap2) [e] [] cp2] X.env = (false, eval (.Call (.Attribute (.Name y py) "pop" ap2) [e] [] cp2) X.env) :: starEach [] X.env := by rfl)
    (hsw : swapsWith (.Call (.Attribute (.Name x px) "append" ap) [.Call (.Attribute (.Name y py) "pop" ap2) [e] [] cp2] [] cp) none pos.line X.env = pure false := by rfl) :
    PS X (.Expr (.Call (.Attribute (.Name x px) "append" ap) [.Call (.Attribute (.Name y py) "pop" ap2) [e] [] cp2] [] cp) pos) (tS X.K H0 B0 fr RX (popAppK i j fk)) :=
  PS.imp (ps_expr (pe_bm PySem.F.plainAttrs_list PySem.F.slot_list_append PySem.F.type_list_append mt_append hx
    (pa_cons (pe_bm PySem.F.plainAttrs_list PySem.F.slot_list_pop PySem.F.type_list_pop mt_popAt hy (pad_cons hk pad_nil hs2) hbase2 hfew2 hline2 hs2 rfl) pa_nil hs) hbase hfew hline hs rfl) hsw) fun D σ H ⟨δ, R, o, rs, q, k⟩ => by
    unfold popAppK at q
    cases ek : fk (allV δ) with
    | none => rw [ek] at q; cases q
    | some dk =>
    rw [ek, Option.bind_some] at q
    split at q
    case h_2 => cases q
    case h_1 p ds es ei ej =>
    split at q
    case isFalse => cases q
    case isTrue hz =>
    split at q
    case h_2 => cases q
    case h_1 c ec =>
    cases q
    obtain ⟨hl, n1, n2, p0, p1, p2⟩ := hz
    obtain ⟨ns, en⟩ := Option.isSome_iff_exists.mp n1
    obtain ⟨ms, em⟩ := Option.isSome_iff_exists.mp n2
    obtain ⟨b, ys, B, evj, hb, tsj, eRj, ndj⟩ := rs.top ej
    obtain ⟨a, xs, A, evi, ha, tsi, eRi, ndi⟩ := rs.top ei
    have e2 := intsO_eq em
    rw [e2] at tsj
    obtain ⟨ey, eB⟩ := trees_ints tsj
    refine ⟨.ref a, evi, .inl ⟨rfl, xs, SqL.of ha⟩, .ref b, evj, .inl ⟨rfl, ys, SqL.of hb⟩, noB, allV δ, [.int p], .no, rs.all, by show (fk (allV δ)).bind _ = _; rw [ek]; rfl, fun vs H2 s2 r2 => ?_⟩
    obtain ⟨v, rfl, rv⟩ := reps1 r2
    cases (show v = V.int p from rv)
    have lm : es.length = ms.length := by rw [e2, List.length_map]
    have yl : ys.length = es.length := by rw [ey, List.length_map, lm]
    have hix : ixN ys.length p = some p.toNat := by
      unfold ixN
      rw [yl]
      rw [if_pos p0, if_pos p1]
    have ec' : ys[p.toNat]? = some (.int c) := by
      rw [ey, List.getElem?_map]
      rw [e2, List.getElem?_map] at ec
      cases eq : ms[p.toNat]? with
      | none => rw [eq] at ec; cases ec
      | some z => rw [eq] at ec; cases ec; rfl
    refine ⟨b, ys, p, p.toNat, .int c, rfl, rfl, s2 _ _ hb, by have := sizeLine_eq; omega, by have := sizeLine_eq; omega, (ixN_seq hix).1, ec', ?_⟩
    have P1 := rs.put0 s2 ej evj eRj ndj (ds' := es.eraseIdx p.toNat) (xs' := ys.eraseIdx p.toNat) (A' := []) (by
      rw [ey, e2, ← eraseIdx_map, ← eraseIdx_map]
      exact ints_trees _) List.nodup_nil fun b hb => nomatch hb
    have ei' : ((dropBs j δ).set j (some (.ow (.lst (es.eraseIdx p.toNat)))))[i]? = some (some (.ow (.lst ds))) := by
      rw [List.getElem?_set_ne (Ne.symm hij)]
      exact dropBs_ow ei
    obtain ⟨a', xs', A', evi', ha', tsi', eRi', ndi'⟩ := P1.1.top ei'
    rw [evi] at evi'
    cases evi'
    have lx := tsi'.length
    have tsi2 := tsi'
    rw [intsO_eq en] at tsi2
    obtain ⟨ex, _⟩ := trees_ints tsi2
    refine ⟨a, xs', .int c, rfl, rfl, ha', by rw [← lx]; exact hl, ?_⟩
    have tn : Trees X.K (upd H2 b (.lst (ys.eraseIdx p.toNat))) (ds ++ [.int c]) (xs' ++ [.int c]) [] := by
      rw [ex, intsO_eq en]
      have := ints_trees (K := X.K) (H := upd H2 b (.lst (ys.eraseIdx p.toNat))) (ns ++ [c])
      rw [List.map_append, List.map_append] at this
      exact this
    have P2 := P1.1.put0 (.refl _) ei' evi eRi' ndi' tn List.nodup_nil fun b hb => nomatch hb
    exact k σ _ _ P2.1 (P1.2.trans P2.2)
end
end L2

/-! ### M1: reckoning with the trees' functions -/
namespace L2
open PySem

/-! statements -/
theorem runD_rt {np nl : Nat} {g : SS → Option Out} {ds : List D} {d : D} (hl : ds.length = np) (e : g (ds.map (fun d => some (.sh d)) ++ List.replicate nl none) = some (.rt d)) : runD np nl g ds = some d := by
  unfold runD
  rw [if_pos hl, e]


/-! comprehensions -/
theorem small_line {n : Nat} (h : n ≤ 1000000) : n ≤ sizeLine := by rw [PySem.sizeLine_eq]; omega

/-! values -/
end L2

/-! ### M2: tables of bools -/
namespace L2
open PySem
theorem eq_self {d : D} (h : okP d = true) : eqD d d = some (.bl true) := by
  unfold eqD
  rw [h]
  show (if (true && true) = true then some (D.bl (PyData.eqv (toP d) (toP d))) else none) = _
  rw [if_pos (show (true && true) = true from rfl), SeqAt.eqv_refl _ (okP_get h).1]
theorem ixN_nat {n k : Nat} (h : k < n) : ixN n (k : Int) = some k := by
  unfold ixN
  rw [if_pos (by omega), if_pos (by omega)]
  simp
/-- a square table -/
def Sq (n : Nat) (T : List (List Bool)) : Prop := T.length = n ∧ ∀ r ∈ T, r.length = n
theorem Sq.row {n : Nat} {T : List (List Bool)} (h : Sq n T) {k : Nat} (hk : k < T.length) : T[k].length = n := h.2 _ (List.getElem_mem hk)
theorem Sq.set {n : Nat} {T : List (List Bool)} (h : Sq n T) {a b : Nat} {v : Bool} (ha : a < T.length) : Sq n (T.set a (T[a].set b v)) := by
  refine ⟨by simp [h.1], fun r hr => ?_⟩
  rcases List.mem_or_eq_of_mem_set hr with z | z
  · exact h.2 r z
  · subst z
    rw [List.length_set]
    exact h.row ha
end L2

/-! ### M3: what comes of a mirror, said by what holds behind it -/
namespace L2
open PySem
def hol {α : Type} (x : Option α) (Q : α → Prop) : Prop := ∃ a, x = some a ∧ Q a
section
variable {α β : Type} {Q : α → Prop} {R : β → Prop}
theorem hol_some {a : α} : hol (some a) Q = Q a := propext ⟨fun ⟨_, e, q⟩ => by cases e; exact q, fun q => ⟨a, rfl, q⟩⟩
theorem hol.imp {x : Option α} {Q' : α → Prop} (h : hol x Q) (k : ∀ a, Q a → Q' a) : hol x Q' := let ⟨a, e, q⟩ := h; ⟨a, e, k a q⟩
theorem hol_is {x : Option α} {a : α} : hol x (fun b => b = a) ↔ x = some a := ⟨fun ⟨_, e, q⟩ => q ▸ e, fun e => ⟨a, e, rfl⟩⟩
end
def asB : D → Option Bool
  | .bl b => some b
  | _ => none
def asI : D → Option Int
  | .int i => some i
  | _ => none
def asL : D → Option (List D)
  | .lst ds => some ds
  | _ => none
section
variable {Q : D → Prop} {QB : Bool → Prop} {QL : List D → Prop} {QO : Out → Prop} {δ : DS} {s : SS} {f g h : DE} {F : D → D → Option D}
theorem ho_var0 {x : Option D} {r : DS} : dVar 0 (x :: r) = x := by cases x <;> rfl
/-! statements -/
def owA (i : Nat) (s : SS) : Option D := match s[i]? with
  | some (some (.ow d)) => some d
  | _ => none
/-! what a def comes to -/
theorem run_of {np nl : Nat} {b : SS → Option Out} {ds : List D} {d : D} (hl : ds.length = np) (h : hol (b (ds.map (fun d => some (.sh d)) ++ List.replicate nl none)) fun o => o = .rt d) : runD np nl b ds = some d := runD_rt hl (hol_is.mp h)
theorem hol_run {np nl : Nat} {b : SS → Option Out} {ds : List D} (hl : ds.length = np) (h : hol (b (ds.map (fun d => some (.sh d)) ++ List.replicate nl none)) fun o => ∃ d, o = .rt d ∧ Q d) : hol (runD np nl b ds) Q := by
  obtain ⟨o, e, d, rfl, q⟩ := h
  exact ⟨d, runD_rt hl e, q⟩
/-! loops -/
theorem for_hol {i : Nat} {b : SS → Option Out} {ds : List D} {s : SS} (I : Nat → SS → Prop) (h0 : I 0 s) (hs : ∀ n (h : n < ds.length) δ, I n δ → hol (b (δ.set i (some (.sh ds[n])))) fun o => match o with | .nx δ' => I (n + 1) δ' | .ct δ' => I (n + 1) δ' | .bk δ' => QO (.nx δ') | .rt d => QO (.rt d) | .rb d δ' => QO (.rb d δ') | .ex c δ' => QO (.ex c δ')) (he : ∀ δ, I ds.length δ → QO (.nx δ)) : hol (forD i b ds s) QO := by
  induction ds generalizing s I with
  | nil => exact ⟨_, rfl, he _ h0⟩
  | cons x r ih =>
    obtain ⟨o, e, q⟩ := hs 0 (by simp) s h0
    have e : b (s.set i (some (.sh x))) = some o := e
    have step : ∀ s1, I 1 s1 → hol (forD i b r s1) QO := fun s1 h1 => ih (fun n => I (n + 1)) h1 (fun n hn δ hI => by
      have := hs (n + 1) (by simpa using hn) δ hI
      simpa using this) fun δ hI => he δ (by simpa using hI)
    unfold forD
    rw [e]
    cases o with
    | nx s1 => exact step s1 q
    | ct s1 => exact step s1 q
    | bk s1 => exact ⟨_, rfl, q⟩
    | rt d => exact ⟨_, rfl, q⟩
    | rb d s1 => exact ⟨_, rfl, q⟩
    | ex c s1 => exact ⟨_, rfl, q⟩
theorem for_rng {i : Nat} {b : SS → Option Out} {lo : Int} {m : Nat} {s : SS} (I : Nat → SS → Prop) (h0 : I 0 s) (hs : ∀ n, n < m → ∀ δ, I n δ → hol (b (δ.set i (some (.sh (.int (lo + (n : Int))))))) fun o => match o with | .nx δ' => I (n + 1) δ' | .ct δ' => I (n + 1) δ' | .bk δ' => QO (.nx δ') | .rt d => QO (.rt d) | .rb d δ' => QO (.rb d δ') | .ex c δ' => QO (.ex c δ')) (he : ∀ δ, I m δ → QO (.nx δ)) : hol (forD i b (rngL lo m) s) QO := by
  refine for_hol I h0 (fun n hn δ hI => ?_) fun δ hI => he δ (by simpa [rngL] using hI)
  have hn' : n < m := by simpa [rngL] using hn
  have := hs n hn' δ hI
  simpa [rngL] using this
theorem for_map {α : Type} {enc : α → D} {i : Nat} {b : SS → Option Out} {xs : List α} {s : SS} (I : List α → SS → Prop) (h0 : I [] s) (hs : ∀ pre x post, xs = pre ++ x :: post → ∀ δ, I pre δ → hol (b (δ.set i (some (.sh (enc x))))) fun o => match o with | .nx δ' => I (pre ++ [x]) δ' | .ct δ' => I (pre ++ [x]) δ' | .bk δ' => QO (.nx δ') | .rt d => QO (.rt d) | .rb d δ' => QO (.rb d δ') | .ex c δ' => QO (.ex c δ')) (he : ∀ δ, I xs δ → QO (.nx δ)) : hol (forD i b (xs.map enc) s) QO := by
  refine for_hol (fun n δ => I (xs.take n) δ) (by simpa using h0) (fun n hn δ hI => ?_) fun δ hI => he δ (by simpa using hI)
  have hn' : n < xs.length := by simpa using hn
  have e : xs = xs.take n ++ xs[n] :: xs.drop (n + 1) := by
    rw [← List.drop_eq_getElem_cons hn', List.take_append_drop]
  have := hs (xs.take n) xs[n] _ e δ hI
  rw [← List.take_succ_eq_append_getElem hn'] at this
  rw [List.getElem_map]
  exact this
end
end L2

/-! ### M4: mirrors reckoned out, term by term -/
namespace L2
open PySem
def o2 (F : D → D → Option D) : Option D → Option D → Option D
  | some x, some y => F x y
  | _, _ => none
def andO : Option D → Option D → Option D
  | some (.bl true), y => y
  | some (.bl false), _ => some (.bl false)
  | _, _ => none
def orO : Option D → Option D → Option D
  | some (.bl true), _ => some (.bl true)
  | some (.bl false), y => y
  | _, _ => none
def andT : Option Bool → Option Bool → Option Bool
  | some true, y => y
  | some false, _ => some false
  | _, _ => none
def orT : Option Bool → Option Bool → Option Bool
  | some true, _ => some true
  | some false, y => y
  | _, _ => none
def iteO {α : Type} : Option Bool → Option α → Option α → Option α
  | some true, x, _ => x
  | some false, _, y => y
  | _, _, _ => none
def consA : Option D → Option (List D) → Option (List D)
  | some x, some xs => some (x :: xs)
  | _, _ => none
def immO : Option D → Option D
  | some d => if d.imm = true then some d else none
  | none => none
def flatO : Option (List D) → Option (List D)
  | some ds => if imms ds = true then some ds else none
  | none => none
def bindO (x : Option Out) (b : SS → Option Out) : Option Out := match x with
  | some (.nx s) => b s
  | o => o
def rng1 : Option D → Option (List D)
  | some (.int j) => if -(2 ^ 62) ≤ j ∧ j < 2 ^ 62 then some (rngL 0 j.toNat) else none
  | _ => none
def rng2 : Option D → Option D → Option (List D)
  | some (.int i), some (.int j) => if -(2 ^ 62) ≤ i ∧ i < 2 ^ 62 ∧ -(2 ^ 62) ≤ j ∧ j < 2 ^ 62 then some (rngL i (j - i).toNat) else none
  | _, _ => none
def cut3 (x : Option D) (lo hi : Option (Option Int)) : Option (List D) := match x, lo, hi with
  | some (.lst ds), some l, some h => some (cutL ds l h)
  | some (.scr ns), some l, some h => some (cutL (ns.map .int) l h)
  | _, _, _ => none
def partO : Option D → Option (Option Int)
  | some (.int i) => some (some i)
  | _ => none
def setO (mk : D → SD) (i : Nat) (x : Option D) (s : SS) : Option Out := match x with
  | some d => some (.nx (s.set i (some (mk d))))
  | none => none
def rtO : Option D → Option Out
  | some d => some (.rt d)
  | none => none
def forX (i : Nat) (ds : Option (List D)) (b : SS → Option Out) (s : SS) : Option Out := match ds with
  | some ds => forD i b ds s
  | none => none
def putO (i : Nat) (x : Option D) (s : SS) : Option Out := match x with
  | some d => some (.nx ((dropBs i s).set i (some (.ow d))))
  | none => none
def compF (fc : DS → Option Bool) (fe : DE) (δ : DS) : D → Option (Option D) := fun x => (fc (δ ++ [some x])).bind fun k => if k = true then (fe (δ ++ [some x])).map some else some none
def compX (xs : Option (List D)) (h : D → Option (Option D)) : Option (List D) := match xs with
  | some xs => if xs.length ≤ sizeLine then compL h xs else none
  | none => none
section
variable {f g h : DE} {δ : DS} {s : SS} {F : D → D → Option D} {c e : DS → Option Bool} {a b : SS → Option Out} {i j : Nat}
theorem ev_var0 {x : Option D} {r : DS} : dVar 0 (x :: r) = x := ho_var0
theorem ev_varS {x : Option D} {r : DS} : dVar (i + 1) (x :: r) = dVar i r := (rfl)
theorem ev_C {d : D} : dC d δ = some d := (rfl)
theorem ev_d2 : d2 F f g δ = o2 F (f δ) (g δ) := by
  unfold d2 o2
  cases f δ <;> cases g δ <;> rfl
theorem ev_d1 {G : D → Option D} : d1 G f δ = (f δ).bind G := (rfl)
theorem ev_test : dTest f δ = (f δ).bind asB := by
  unfold dTest
  cases f δ with
  | none => rfl
  | some d => cases d <;> rfl
theorem ev_truth : dTruth f δ = (f δ).bind truthD := (rfl)
theorem ev_andT : dAndT c e δ = andT (c δ) (e δ) := by
  unfold dAndT
  rcases c δ with _ | _ | _ <;> rfl
theorem ev_orT : dOrT c e δ = orT (c δ) (e δ) := by
  unfold dOrT
  rcases c δ with _ | _ | _ <;> rfl
theorem ev_notT : dNotT c δ = (c δ).map (!·) := (rfl)
theorem ev_and : dAnd f g δ = andO (f δ) (g δ) := by
  unfold dAnd andO
  rcases f δ with _ | (_ | (_ | _) | _ | _ | _ | _ | _ | _) <;> rfl
theorem ev_or : dOr f g δ = orO (f δ) (g δ) := by
  unfold dOr orO
  rcases f δ with _ | (_ | (_ | _) | _ | _ | _ | _ | _ | _) <;> rfl
theorem ev_if : dIf c f g δ = iteO (c δ) (f δ) (g δ) := by
  unfold dIf
  rcases c δ with _ | _ | _ <;> rfl
theorem ev_args0 : dArgs [] δ = some [] := (rfl)
theorem ev_argsS {r : List DE} : dArgs (f :: r) δ = consA (f δ) (dArgs r δ) := by
  show ((f δ).bind fun x => (dArgs r δ).bind fun xs => some (x :: xs)) = _
  cases f δ <;> cases dArgs r δ <;> rfl
theorem ev_call {M : List D → Option D} {fl : List DE} : dCall M fl δ = (dArgs fl δ).bind M := (rfl)
theorem ev_callL {M : List D → Option (List D)} {fl : List DE} : dCallL M fl δ = (dArgs fl δ).bind M := (rfl)
theorem ev_mkL {f : DS → Option (List D)} : mkL f δ = (f δ).map .lst := (rfl)
theorem ev_mkT {f : DS → Option (List D)} : mkT f δ = (f δ).map .tup := (rfl)
theorem ev_mkFlat {f : DS → Option (List D)} : mkFlat f δ = (flatO (f δ)).map .lst := by
  unfold mkFlat flatO
  cases f δ with
  | none => rfl
  | some ds =>
    show (if imms ds = true then _ else _) = Option.map _ (if imms ds = true then _ else _)
    split <;> rfl
theorem ev_mkImm : mkImm f δ = immO (f δ) := by
  unfold mkImm immO
  cases f δ <;> rfl
theorem ev_is {T : String} : dIs T f δ = (f δ).map fun d => .bl (isF T d) := (rfl)
theorem ev_seq : dSeq f δ = (f δ).bind seqD := (rfl)
theorem ev_rng1 : dRng1 f δ = rng1 (f δ) := (rfl)
theorem ev_rng2 : dRng2 f g δ = rng2 (f δ) (g δ) := (rfl)
theorem ev_comp {fi : DS → Option (List D)} : dComp fi c f δ = compX (fi δ) (compF c f δ) := by
  unfold dComp compX
  cases fi δ <;> rfl
theorem ev_part : dPart f δ = partO (f δ) := (rfl)
theorem ev_nopart : dNoPart δ = some none := (rfl)
theorem ev_cut {fl fh : DS → Option (Option Int)} : dCut f fl fh δ = cut3 (f δ) (fl δ) (fh δ) := by
  unfold dCut cut3
  rcases f δ with _ | (_ | _ | _ | _ | _ | _ | _ | _) <;> first | rfl | (cases fl δ <;> cases fh δ <;> rfl)
theorem ev_seqO : seqO a b s = bindO (a s) b := by
  unfold seqO bindO
  rcases a s with _ | (_ | _ | _ | _) <;> rfl
theorem ev_skip : skipO s = some (.nx s) := (rfl)
theorem ev_bk : bkO s = some (.bk s) := (rfl)
theorem ev_ct : ctO s = some (.ct s) := (rfl)
theorem ev_asgS : asgS i f s = setO .sh i (f (shV s)) s := by
  unfold asgS setO
  cases f (shV s) <;> rfl
theorem ev_asgI : asgI i f s = setO .sh i (immO (f (allV s))) s := by
  unfold asgI setO immO
  cases f (allV s) with
  | none => rfl
  | some d =>
    show (if d.imm = true then _ else _) = (match (if d.imm = true then some d else none) with | some d => some (Out.nx (s.set i (some (SD.sh d)))) | none => none)
    split <;> rfl
theorem ev_asgN : asgN i f s = setO .ow i (f (allV s)) s := by
  unfold asgN setO
  cases f (allV s) <;> rfl
theorem ev_retI : retI f s = rtO (immO (f (allV s))) := by
  unfold retI rtO immO
  cases f (allV s) with
  | none => rfl
  | some d =>
    show (if d.imm = true then _ else _) = (match (if d.imm = true then some d else none) with | some d => some (Out.rt d) | none => none)
    split <;> rfl
theorem ev_retN : retN f s = rtO (f (allV s)) := by
  unfold retN rtO
  cases f (allV s) <;> rfl
theorem ev_retS : retS f s = rtO (f (shV s)) := by
  unfold retS rtO
  cases f (shV s) <;> rfl
theorem ev_retO : retO i s = rtO (owA i s) := by
  unfold retO rtO owA
  rcases s[i]? with _ | _ | ⟨x | x | ⟨r, x⟩⟩ <;> rfl
theorem ev_ifO : ifO c a b s = iteO (c (allV s)) (a s) (b s) := by
  unfold ifO
  rcases c (allV s) with _ | _ | _ <;> rfl
theorem ev_forO {fi : DS → Option (List D)} : forO i fi b s = forX i (fi (shV s)) b s := by
  unfold forO forX
  cases fi (shV s) <;> rfl
theorem ev_frz : frzO i b s = b (frzS i s) := (rfl)
/-! how they go on when the parts are there -/
theorem eo_2 {x y : D} : o2 F (some x) (some y) = F x y := (rfl)
theorem eo_and {x y : Bool} : andO (some (.bl x)) (some (.bl y)) = some (.bl (x && y)) := by cases x <;> rfl
theorem eo_andt {y : Option D} : andO (some (.bl true)) y = y := (rfl)
theorem eo_andf {y : Option D} : andO (some (.bl false)) y = some (.bl false) := (rfl)
theorem eo_or {x y : Bool} : orO (some (.bl x)) (some (.bl y)) = some (.bl (x || y)) := by cases x <;> rfl
theorem eo_ort {y : Option D} : orO (some (.bl true)) y = some (.bl true) := (rfl)
theorem eo_orf {y : Option D} : orO (some (.bl false)) y = y := (rfl)
theorem eo_andT {x y : Bool} : andT (some x) (some y) = some (x && y) := by cases x <;> rfl
theorem eo_andTt {y : Option Bool} : andT (some true) y = y := (rfl)
theorem eo_andTf {y : Option Bool} : andT (some false) y = some false := (rfl)
theorem eo_orT {x y : Bool} : orT (some x) (some y) = some (x || y) := by cases x <;> rfl
theorem eo_orTt {y : Option Bool} : orT (some true) y = some true := (rfl)
theorem eo_orTf {y : Option Bool} : orT (some false) y = y := (rfl)
theorem eo_itet {α : Type} {x y : Option α} : iteO (some true) x y = x := (rfl)
theorem eo_itef {α : Type} {x y : Option α} : iteO (some false) x y = y := (rfl)
theorem eo_cons {x : D} {xs : List D} : consA (some x) (some xs) = some (x :: xs) := (rfl)
theorem eo_nx : bindO (some (.nx s)) b = b s := (rfl)
theorem eo_rt {d : D} : bindO (some (.rt d)) b = some (.rt d) := (rfl)
theorem eo_bk : bindO (some (.bk s)) b = some (.bk s) := (rfl)
theorem eo_ct : bindO (some (.ct s)) b = some (.ct s) := (rfl)
theorem eo_set {mk : D → SD} {d : D} : setO mk i (some d) s = some (.nx (s.set i (some (mk d)))) := (rfl)
theorem eo_rtO {d : D} : rtO (some d) = some (.rt d) := (rfl)
theorem eo_for {ds : List D} : forX i (some ds) b s = forD i b ds s := (rfl)
theorem eo_immI {n : Int} : immO (some (.int n)) = some (.int n) := (rfl)
theorem eo_immB {n : Bool} : immO (some (.bl n)) = some (.bl n) := (rfl)
theorem eo_immN : immO (some .non) = some .non := (rfl)
theorem eo_immS {x : Str} : immO (some (.str x)) = some (.str x) := (rfl)
theorem eo_immR {ns : List Int} : immO (some (.scr ns)) = some (.scr ns) := (rfl)
theorem eo_imm {d : D} (h : d.imm = true) : immO (some d) = some d := if_pos h
theorem eo_flat {ds : List D} (h : imms ds = true) : flatO (some ds) = some ds := if_pos h
theorem eo_part {n : Int} : partO (some (.int n)) = some (some n) := (rfl)
theorem eo_cutL {ds : List D} {l h : Option Int} : cut3 (some (.lst ds)) (some l) (some h) = some (cutL ds l h) := (rfl)
theorem eo_cutR {ns : List Int} {l h : Option Int} : cut3 (some (.scr ns)) (some l) (some h) = some (cutL (ns.map .int) l h) := (rfl)
theorem eo_rng1 {n : Int} (h : -(2 ^ 62) ≤ n ∧ n < 2 ^ 62) : rng1 (some (.int n)) = some (rngL 0 n.toNat) := if_pos h
theorem eo_comp {xs : List D} {k : D → Option (Option D)} (h : xs.length ≤ 1000000) : compX (some xs) k = compL k xs := if_pos (small_line h)
/-! values -/
section
variable {m n : Int} {p q : Bool} {ds es : List D} {x y : Str} {ns : List Int}
theorem ea_add : addI (.int m) (.int n) = some (.int (m + n)) := (rfl)
theorem ea_sub : subI (.int m) (.int n) = some (.int (m - n)) := (rfl)
theorem ea_div (h : CDiv m n) : divI (.int m) (.int n) = some (.int (m / n)) := if_pos h
theorem ea_mod (h : 0 < n) : modI (.int m) (.int n) = some (.int (m % n)) := if_pos h
theorem ea_pow (h : CPow m n) : powI (.int m) (.int n) = some (.int (m ^ n.toNat)) := if_pos h
theorem ea_lt : ltI (.int m) (.int n) = some (.bl (decide (m < n))) := (rfl)
theorem ea_le : leI (.int m) (.int n) = some (.bl (decide (m ≤ n))) := (rfl)
theorem ea_gt : gtI (.int m) (.int n) = some (.bl (decide (n < m))) := (rfl)
theorem ea_ge : geI (.int m) (.int n) = some (.bl (decide (n ≤ m))) := (rfl)
theorem ea_eqI : eqD (.int m) (.int n) = some (.bl (decide (m = n))) := (rfl)
theorem ea_neI : neD (.int m) (.int n) = some (.bl (!decide (m = n))) := (rfl)
theorem ea_eqB : eqD (.bl p) (.bl q) = some (.bl (p == q)) := (rfl)
theorem ea_neB : neD (.bl p) (.bl q) = some (.bl (!(p == q))) := (rfl)
theorem ea_neg : uNeg (.int m) = some (.int (-m)) := (rfl)
theorem ea_not : uNot (.bl p) = some (.bl (!p)) := (rfl)
theorem ea_truB : truthD (.bl p) = some p := (rfl)
theorem ea_truI : truthD (.int m) = some (m != 0) := (rfl)
theorem ea_truL : truthD (.lst ds) = some (!ds.isEmpty) := (rfl)
theorem ea_truN : truthD .non = some false := (rfl)
theorem ea_seqL : seqD (.lst ds) = some ds := (rfl)
theorem ea_seqT : seqD (.tup ds) = some ds := (rfl)
theorem ea_seqR : seqD (.scr ns) = some (ns.map .int) := (rfl)
theorem ea_lenL : lenF [.lst ds] = some (.int (ds.length : Int)) := (rfl)
theorem ea_lenT : lenF [.tup ds] = some (.int (ds.length : Int)) := (rfl)
theorem ea_lenR : lenF [.scr ns] = some (.int (ns.length : Int)) := (rfl)
theorem ea_listL : listF [.lst ds] = some ds := (rfl)
theorem ea_listT : listF [.tup ds] = some ds := (rfl)
theorem ea_listR : listF [.scr ns] = some (ns.map .int) := (rfl)
theorem ea_tupL : tupF [.lst ds] = some (.tup ds) := (rfl)
theorem ea_tupT : tupF [.tup ds] = some (.tup ds) := (rfl)
theorem ea_ixL : ixD (.lst ds) (.int m) = atI ds m := (rfl)
theorem ea_ixT : ixD (.tup ds) (.int m) = atI ds m := (rfl)
theorem ea_ixR : ixD (.scr ns) (.int m) = (atI ns m).map .int := (rfl)
theorem ea_isBB : isF "bool" (.bl p) = true := (rfl)
theorem ea_isBI : isF "bool" (.int m) = false := (rfl)
theorem ea_isII : isF "int" (.int m) = true := (rfl)
theorem ea_isIB : isF "int" (.bl p) = true := (rfl)
theorem ea_isLL : isF "list" (.lst ds) = true := (rfl)
theorem ea_isLT : isF "list" (.tup ds) = false := (rfl)
theorem ea_isTT : isF "tuple" (.tup ds) = true := (rfl)
theorem ea_isLN : isF "list" .non = false := (rfl)
theorem ea_asB : asB (.bl p) = some p := (rfl)
theorem ea_asI : asI (.int m) = some m := (rfl)
theorem ea_asL : asL (.lst ds) = some ds := (rfl)
end
theorem eb_bs {α β : Type} {a : α} {k : α → Option β} : (some a).bind k = k a := (rfl)
theorem eb_bn {α β : Type} {k : α → Option β} : (none : Option α).bind k = none := (rfl)
theorem eb_ms {α β : Type} {a : α} {k : α → β} : (some a).map k = some (k a) := (rfl)
theorem eb_mn {α β : Type} {k : α → β} : (none : Option α).map k = none := (rfl)
theorem eb_s0 {α : Type} {x y : α} {r : List α} : (x :: r).set 0 y = y :: r := (rfl)
theorem eb_sS {α : Type} {n : Nat} {x y : α} {r : List α} : (x :: r).set (n + 1) y = x :: r.set n y := (rfl)
theorem eb_mc {α β : Type} {x : α} {r : List α} {k : α → β} : (x :: r).map k = k x :: r.map k := (rfl)
theorem eb_mnil {α β : Type} {k : α → β} : ([] : List α).map k = [] := (rfl)
theorem eb_rS {α : Type} {n : Nat} {x : α} : List.replicate (n + 1) x = x :: List.replicate n x := (rfl)
theorem eb_r0 {α : Type} {x : α} : List.replicate 0 x = [] := (rfl)
theorem eb_ca {α : Type} {x : α} {r t : List α} : (x :: r) ++ t = x :: (r ++ t) := (rfl)
theorem eb_na {α : Type} {t : List α} : [] ++ t = t := (rfl)
/-! states -/
theorem es_all0 : allV [] = [] := (rfl)
theorem es_allS {x : Option SD} {r : SS} : allV (x :: r) = x.map SD.val :: allV r := (rfl)
theorem es_sh0 : shV [] = [] := (rfl)
theorem es_shS {x : Option SD} {r : SS} : shV (x :: r) = shO x :: shV r := (rfl)
theorem es_val1 {d : D} : Option.map SD.val (some (.sh d)) = some d := (rfl)
theorem es_val2 {d : D} : Option.map SD.val (some (.ow d)) = some d := (rfl)
theorem es_val3 : Option.map SD.val none = none := (rfl)
theorem es_shO {d : D} : shO (some (.sh d)) = some d := (rfl)
theorem es_drop0 : dropBs i [] = [] := (rfl)
theorem es_dropS {x : Option SD} {r : SS} : dropBs i (x :: r) = dropB i x :: dropBs i r := (rfl)
theorem es_dropSh {d : D} : dropB i (some (.sh d)) = some (.sh d) := (rfl)
theorem es_dropOw {d : D} : dropB i (some (.ow d)) = some (.ow d) := (rfl)
theorem es_dropN : dropB i none = none := (rfl)
theorem es_ow0 {d : D} {r : SS} : owA 0 (some (.ow d) :: r) = some d := (rfl)
theorem es_owS {x : Option SD} {r : SS} : owA (i + 1) (x :: r) = owA i r := (rfl)
end
end L2

/-! ### M5: changes of owned lists; comprehensions -/
namespace L2
open PySem
def immsO : Option (List D) → Option (List D) := flatO
def st0V (o k v : Option D) : Option D := match o, k, v with
  | some (.lst ds), some (.int k), some d => (ixN ds.length k).map fun j => .lst (ds.set j d)
  | _, _, _ => none
def st1V (o k j v : Option D) : Option D := match o, k, j, v with
  | some (.lst ds), some (.int k), some (.int j), some d => (ixN ds.length k).bind fun k' => (match ds[k']? with
    | some (.lst es) => if imms es = true then (ixN es.length j).map fun j' => .lst (ds.set k' (.lst (es.set j' d))) else none
    | _ => none)
  | _, _, _, _ => none
def m0V (M : List D → List D → Option (List D)) (o : Option D) (args : Option (List D)) : Option D := match o, args with
  | some (.lst ds), some args => (M ds args).map .lst
  | _, _ => none
def m1V (M : List D → List D → Option (List D)) (o k : Option D) (args : Option (List D)) : Option D := match o, k, args with
  | some (.lst ds), some (.int k), some args => (ixN ds.length k).bind fun j => (match ds[j]? with
    | some (.lst es) => if imms es = true then (flatO (M es args)).map fun es' => .lst (ds.set j (.lst es')) else none
    | _ => none)
  | _, _, _ => none
def mMV (M : List D → Option D) (o : Option D) (args : Option (List D)) : Option D := match o, args with
  | some d0, some args => M (d0 :: args)
  | _, _ => none
section
variable {f g fk fj fv : DE} {s : SS} {i : Nat} {M : List D → List D → Option (List D)} {fl : List DE}
theorem eo_put {d : D} : putO i (some d) s = some (.nx ((dropBs i s).set i (some (.ow d)))) := (rfl)
/-- what is an int, what is a list that is owned -/
def kI : D → Option Int
  | .int k => some k
  | _ => none
def kL : D → Option (List D)
  | .lst ds => some ds
  | _ => none
def kW : Option (Option SD) → Option D
  | some (some (.ow d)) => some d
  | _ => none
theorem owA_kW : owA i s = kW s[i]? := by
  unfold owA kW
  generalize s[i]? = x
  rcases x with _ | _ | ⟨x | x | ⟨r, x⟩⟩ <;> rfl
theorem mt2 {β : Type} {k : D} {x : Option (Option SD)} {F : Int → List D → Option β} : (match k, x with | .int k, some (some (.ow (.lst ds))) => F k ds | _, _ => none) = (kI k).bind fun k => ((kW x).bind kL).bind fun ds => F k ds := by
  cases k with
  | int k => rcases x with _ | _ | ⟨x | x | ⟨r, x⟩⟩ <;> first | rfl | (cases x <;> rfl)
  | _ => rfl
theorem mt3 {β : Type} {k j : D} {x : Option (Option SD)} {F : Int → Int → List D → Option β} : (match k, j, x with | .int k, .int j, some (some (.ow (.lst ds))) => F k j ds | _, _, _ => none) = (kI k).bind fun k => (kI j).bind fun j => ((kW x).bind kL).bind fun ds => F k j ds := by
  cases k with
  | int k =>
    cases j with
    | int j => rcases x with _ | _ | ⟨x | x | ⟨r, x⟩⟩ <;> first | rfl | (cases x <;> rfl)
    | _ => rfl
  | _ => rfl
theorem st0V_k {o k v : Option D} : st0V o k v = (o.bind kL).bind fun ds => (k.bind kI).bind fun k => v.bind fun d => (ixN ds.length k).map fun j => .lst (ds.set j d) := by
  rcases o with _ | o
  · rfl
  · cases o with
    | lst ds =>
      rcases k with _ | k
      · rfl
      · cases k with
        | int k => cases v <;> rfl
        | _ => rfl
    | _ => rfl
theorem st1V_k {o k j v : Option D} : st1V o k j v = (o.bind kL).bind fun ds => (k.bind kI).bind fun k => (j.bind kI).bind fun j => v.bind fun d => (ixN ds.length k).bind fun k' => (match ds[k']? with
    | some (.lst es) => if imms es = true then (ixN es.length j).map fun j' => .lst (ds.set k' (.lst (es.set j' d))) else none
    | _ => none) := by
  rcases o with _ | o
  · rfl
  · cases o with
    | lst ds =>
      rcases k with _ | k
      · rfl
      · cases k with
        | int k =>
          rcases j with _ | j
          · rfl
          · cases j with
            | int j => cases v <;> rfl
            | _ => rfl
        | _ => rfl
    | _ => rfl
theorem putO_b {α : Type} {x : Option α} {F : α → Option D} : putO i (x.bind F) s = x.bind fun a => putO i (F a) s := by cases x <;> rfl
theorem bind_no {α β : Type} {x : Option α} : (x.bind fun _ => (none : Option β)) = none := by cases x <;> rfl
theorem ev_st0 : st0 i fk fv s = putO i (st0V (owA i s) (fk (allV s)) (immO (fv (allV s)))) s := by
  have e : st0 i fk fv s = (fv (allV s)).bind fun d => if d.imm = true then (fk (allV s)).bind fun dk => (kI dk).bind fun k => ((kW s[i]?).bind kL).bind fun ds => (ixN ds.length k).map fun j => .nx ((dropBs i s).set i (some (.ow (.lst (ds.set j d))))) else none := by
    refine congrArg (Option.bind (fv (allV s))) (funext fun d => ?_)
    refine congrArg (fun z => if d.imm = true then z else none) ?_
    refine congrArg (Option.bind (fk (allV s))) (funext fun dk => ?_)
    exact mt2 (F := fun k ds => (ixN ds.length k).map fun j => Out.nx ((dropBs i s).set i (some (.ow (.lst (ds.set j d))))))
  rw [e, st0V_k, owA_kW]
  simp only [putO_b]
  generalize (kW s[i]?).bind kL = x
  rcases fv (allV s) with _ | d
  · show none = x.bind fun ds => ((fk (allV s)).bind kI).bind fun k => (none : Option Out)
    simp only [bind_no]
  · show (if d.imm = true then (fk (allV s)).bind fun dk => _ else none) = x.bind fun ds => ((fk (allV s)).bind kI).bind fun k => (if d.imm = true then some d else none).bind fun d => _
    split
    · rcases fk (allV s) with _ | k
      · simp only [Option.bind_none, bind_no]
      · simp only [Option.bind_some]
        cases kI k with
        | none => simp only [Option.bind_none, bind_no]
        | some k =>
          simp only [Option.bind_some]
          cases x with
          | none => rfl
          | some ds =>
            simp only [Option.bind_some]
            cases ixN ds.length k <;> rfl
    · simp only [Option.bind_none, bind_no]
theorem m_st1 {k j : Int} {d : D} {ds : List D} : ((ixN ds.length k).bind fun k' => (match ds[k']? with
      | some (.lst es) => if imms es = true then (ixN es.length j).map fun j' => Out.nx ((dropBs i s).set i (some (.ow (.lst (ds.set k' (.lst (es.set j' d))))))) else none
      | _ => none)) = putO i (st1V (some (.lst ds)) (some (.int k)) (some (.int j)) (some d)) s := by
  show _ = putO i ((ixN ds.length k).bind _) s
  cases ixN ds.length k with
  | none => rfl
  | some k' =>
    rw [Option.bind_some, Option.bind_some]
    cases ds[k']? with
    | none => rfl
    | some y =>
      cases y with
      | lst es =>
        dsimp only
        split
        · cases ixN es.length j <;> rfl
        · rfl
      | _ => rfl
theorem ev_st1 : st1 i fk fj fv s = putO i (st1V (owA i s) (fk (allV s)) (fj (allV s)) (immO (fv (allV s)))) s := by
  have e : st1 i fk fj fv s = (fv (allV s)).bind fun d => if d.imm = true then (fk (allV s)).bind fun dk => (fj (allV s)).bind fun dj => (kI dk).bind fun k => (kI dj).bind fun j => ((kW s[i]?).bind kL).bind fun ds => (ixN ds.length k).bind fun k' => (match ds[k']? with
      | some (.lst es) => if imms es = true then (ixN es.length j).map fun j' => .nx ((dropBs i s).set i (some (.ow (.lst (ds.set k' (.lst (es.set j' d))))))) else none
      | _ => none) else none := by
    refine congrArg (Option.bind (fv (allV s))) (funext fun d => ?_)
    refine congrArg (fun z => if d.imm = true then z else none) ?_
    refine congrArg (Option.bind (fk (allV s))) (funext fun dk => ?_)
    refine congrArg (Option.bind (fj (allV s))) (funext fun dj => ?_)
    exact mt3 (F := fun k j ds => (ixN ds.length k).bind fun k' => (match ds[k']? with
      | some (.lst es) => if imms es = true then (ixN es.length j).map fun j' => Out.nx ((dropBs i s).set i (some (.ow (.lst (ds.set k' (.lst (es.set j' d))))))) else none
      | _ => none))
  rw [e, st1V_k, owA_kW]
  simp only [putO_b]
  generalize (kW s[i]?).bind kL = x
  rcases fv (allV s) with _ | d
  · show none = x.bind fun ds => ((fk (allV s)).bind kI).bind fun k => ((fj (allV s)).bind kI).bind fun j => (none : Option Out)
    simp only [bind_no]
  · show (if d.imm = true then (fk (allV s)).bind fun dk => _ else none) = x.bind fun ds => ((fk (allV s)).bind kI).bind fun k => ((fj (allV s)).bind kI).bind fun j => (if d.imm = true then some d else none).bind fun d => _
    split
    · rcases fk (allV s) with _ | k
      · simp only [Option.bind_none, bind_no]
      · simp only [Option.bind_some]
        rcases fj (allV s) with _ | j
        · simp only [Option.bind_none, bind_no]
        · simp only [Option.bind_some]
          cases kI k with
          | none => simp only [Option.bind_none, bind_no]
          | some k =>
            cases kI j with
            | none => simp only [Option.bind_none, Option.bind_some, bind_no]
            | some j =>
              simp only [Option.bind_some]
              cases x with
              | none => rfl
              | some ds =>
                have := m_st1 (i := i) (s := s) (k := k) (j := j) (d := d) (ds := ds)
                rw [st1V_k] at this
                simp only [Option.bind_some, putO_b, kL, kI] at this
                simp only [Option.bind_some]
                exact this
    · simp only [Option.bind_none, bind_no]
theorem ev_m0 : m0 i M fl s = putO i (m0V M (owA i s) (immsO (dArgs fl (allV s)))) s := by
  unfold m0 owA
  rcases dArgs fl (allV s) with _ | args
  · rcases s[i]? with _ | _ | ⟨x | x | ⟨r, x⟩⟩ <;> (first | rfl | (cases x <;> rfl))
  · show (if imms args = true then _ else _) = putO i (m0V M _ (if imms args = true then some args else none)) s
    split
    · rcases s[i]? with _ | _ | ⟨x | x | ⟨r, x⟩⟩ <;> (first | rfl | (cases x <;> first | rfl | (rename_i ds; show Option.map _ (M ds args) = putO i (Option.map _ (M ds args)) s; cases M ds args <;> rfl)))
    · rcases s[i]? with _ | _ | ⟨x | x | ⟨r, x⟩⟩ <;> (first | rfl | (cases x <;> rfl))
theorem m_m1 {k : Int} {ds args : List D} : ((ixN ds.length k).bind fun j => (match ds[j]? with
      | some (.lst es) => if imms es = true then (M es args).bind fun es' => if imms es' = true then some (Out.nx ((dropBs i s).set i (some (.ow (.lst (ds.set j (.lst es'))))))) else none else none
      | _ => none)) = putO i (m1V M (some (.lst ds)) (some (.int k)) (some args)) s := by
  show _ = putO i ((ixN ds.length k).bind _) s
  cases ixN ds.length k with
  | none => rfl
  | some k' =>
    rw [Option.bind_some, Option.bind_some]
    cases ds[k']? with
    | none => rfl
    | some y =>
      cases y with
      | lst es =>
        dsimp only
        split
        · cases M es args with
          | none => rfl
          | some es' =>
            show (if imms es' = true then _ else _) = putO i (Option.map _ (if imms es' = true then _ else _)) s
            split <;> rfl
        · rfl
      | _ => rfl
theorem ev_m1 : m1 i fk M fl s = putO i (m1V M (owA i s) (fk (allV s)) (immsO (dArgs fl (allV s)))) s := by
  unfold m1 owA
  rcases dArgs fl (allV s) with _ | args
  · rcases fk (allV s) with _ | (_ | _ | _ | _ | _ | _ | _ | _) <;> rcases s[i]? with _ | _ | ⟨x | x | ⟨r, x⟩⟩ <;> (first | rfl | (cases x <;> rfl))
  · show _ = putO i (m1V M _ _ (if imms args = true then some args else none)) s
    by_cases h : imms args = true
    · rw [if_pos h]
      rcases fk (allV s) with _ | (_ | _ | k | _ | _ | _ | _ | _) <;> rcases s[i]? with _ | _ | ⟨x | x | ⟨r, x⟩⟩ <;> (first | rfl | (cases x <;> first | rfl | exact (if_pos h).trans m_m1 | exact if_pos h) | exact if_pos h)
    · rw [if_neg h]
      rcases fk (allV s) with _ | (_ | _ | k | _ | _ | _ | _ | _) <;> rcases s[i]? with _ | _ | ⟨x | x | ⟨r, x⟩⟩ <;> (first | rfl | (cases x <;> first | rfl | exact if_neg h) | exact if_neg h)
theorem ev_asgM {M : List D → Option D} : asgM i M fl s = putO i (mMV M (owA i s) (immsO (dArgs fl (allV s)))) s := by
  unfold asgM owA
  rcases dArgs fl (allV s) with _ | args
  · rcases s[i]? with _ | _ | ⟨x | x | ⟨r, x⟩⟩ <;> rfl
  · show (if imms args = true then _ else _) = putO i (mMV M _ (if imms args = true then some args else none)) s
    split
    · rcases s[i]? with _ | _ | ⟨x | x | ⟨r, x⟩⟩ <;> first | rfl | (show Option.map _ (M (x :: args)) = putO i (M (x :: args)) s; cases M (x :: args) <;> rfl)
    · rcases s[i]? with _ | _ | ⟨x | x | ⟨r, x⟩⟩ <;> rfl
theorem ev_app0N : app0N i f s = putO i (m0V appF (owA i s) (consA (f (allV s)) (some []))) s := by
  unfold app0N owA
  rcases f (allV s) with _ | d
  · rcases s[i]? with _ | _ | ⟨x | x | ⟨r, x⟩⟩ <;> (first | rfl | (cases x <;> rfl))
  · rcases s[i]? with _ | _ | ⟨x | x | ⟨r, x⟩⟩ <;> (first | rfl | (cases x <;> first | rfl | (rename_i ds; show Option.map _ (appF ds [d]) = putO i (Option.map _ (appF ds [d])) s; cases appF ds [d] <;> rfl)))
theorem ev_ins0N : ins0N i f g s = putO i (m0V insF (owA i s) (consA (immO (f (allV s))) (consA (g (allV s)) (some [])))) s := by
  unfold ins0N owA
  rcases f (allV s) with _ | k
  · rcases s[i]? with _ | _ | ⟨x | x | ⟨r, x⟩⟩ <;> (first | rfl | (cases x <;> rfl))
  · show (if k.imm = true then _ else _) = putO i (m0V insF _ (consA (if k.imm = true then some k else none) _)) s
    split
    · rcases g (allV s) with _ | d
      · rcases s[i]? with _ | _ | ⟨x | x | ⟨r, x⟩⟩ <;> (first | rfl | (cases x <;> rfl))
      · rcases s[i]? with _ | _ | ⟨x | x | ⟨r, x⟩⟩ <;> (first | rfl | (cases x <;> first | rfl | (rename_i ds; show Option.map _ (insF ds [k, d]) = putO i (Option.map _ (insF ds [k, d])) s; cases insF ds [k, d] <;> rfl)))
    · rcases s[i]? with _ | _ | ⟨x | x | ⟨r, x⟩⟩ <;> (first | rfl | (cases x <;> rfl))
end
theorem es_v1 {d : D} : (SD.sh d).val = d := (rfl)
theorem es_v2 {d : D} : (SD.ow d).val = d := (rfl)
theorem ints_map : ∀ ns : List Int, ints' (ns.map D.int) = some ns
  | [] => rfl
  | n :: ns => by
    show (ints' (ns.map D.int)).map (n :: ·) = _
    rw [ints_map ns]
    rfl
/-! tables -/
theorem erase_map {α β : Type} {f : α → β} : ∀ {xs : List α} {i : Nat}, (xs.map f).eraseIdx i = (xs.eraseIdx i).map f
  | [], _ => rfl
  | _ :: _, 0 => rfl
  | x :: r, i + 1 => congrArg (f x :: ·) (erase_map (xs := r) (i := i))
theorem pow_lit (n : Nat) (h : n ≤ 1000) : powI (.int 10) (.int (n : Int)) = some (.int (10 ^ n)) := by
  rw [ea_pow (show CPow 10 (n : Int) from ⟨by omega, by omega, by decide⟩), Int.toNat_natCast]
theorem mod_nat {x : Int} {n : Nat} (h : 0 < n) : ∃ a : Nat, x % (n : Int) = (a : Int) ∧ a < n := by
  have h1 := Int.emod_nonneg x (show (n : Int) ≠ 0 by omega)
  have h2 := Int.emod_lt_of_pos x (show (0 : Int) < n by omega)
  exact ⟨(x % (n : Int)).toNat, by omega, by omega⟩
/-! comprehensions, by what each item comes to -/
theorem comp_of {α : Type} {enc : α → D} {c : DS → Option Bool} {f : DE} {δ : DS} (p : α → Bool) (g : α → D) : ∀ {xs : List α}, (∀ x ∈ xs, c (δ ++ [some (enc x)]) = some (p x)) → (∀ x ∈ xs, p x = true → f (δ ++ [some (enc x)]) = some (g x)) → compL (compF c f δ) (xs.map enc) = some ((xs.filter p).map g)
  | [], _, _ => rfl
  | x :: r, hc, hf => by
    have ih := comp_of (xs := r) p g (fun y hy => hc y (List.mem_cons_of_mem _ hy)) fun y hy => hf y (List.mem_cons_of_mem _ hy)
    rw [List.map_cons]
    unfold compL
    rw [ih]
    unfold compF
    rw [hc x List.mem_cons_self]
    cases hp : p x with
    | true =>
      show ((if true = true then (f (δ ++ [some (enc x)])).map some else some none).bind _) = _
      rw [if_pos rfl, hf x List.mem_cons_self hp, List.filter_cons_of_pos hp]
      rfl
    | false =>
      rw [List.filter_cons_of_neg (by rw [hp]; exact Bool.false_ne_true)]
      rfl
theorem comp_ofAll {α : Type} {enc : α → D} {f : DE} {δ : DS} (g : α → D) {xs : List α} (hf : ∀ x ∈ xs, f (δ ++ [some (enc x)]) = some (g x)) : compL (compF dYes f δ) (xs.map enc) = some (xs.map g) := by
  rw [comp_of (fun _ => true) g (fun _ _ => rfl) fun x hx _ => hf x hx, List.filter_eq_self.mpr fun _ _ => rfl]
/-! ints as natural numbers; indexes -/
def nD (n : Nat) : D := .int (n : Int)
theorem rng_nat {n : Nat} : rngL 0 n = (List.range n).map nD := by
  unfold rngL nD
  refine List.map_congr_left fun k _ => ?_
  rw [Int.zero_add]
theorem at_nat {α : Type} {xs : List α} {k : Nat} (h : k < xs.length) : atI xs (k : Int) = some xs[k] := atI_nat (List.getElem?_eq_getElem h)
theorem ixN_of {n k : Nat} (h : k < n) : ixN n (k : Int) = some k := ixN_nat h
end L2

/-! ### M6: ballots -/
namespace L2
open PySem
def smallO : Option (List D) → Option (List D)
  | some ds => if ds.length ≤ sizeLine then some ds else none
  | none => none
theorem ev_small {g : DS → Option (List D)} {δ : DS} : dSmall g δ = smallO (g δ) := by
  unfold dSmall smallO
  cases g δ <;> rfl
theorem eo_small {ds : List D} (h : ds.length ≤ 1000000) : smallO (some ds) = some ds := if_pos (small_line h)
theorem ea_intI {n : Int} : intF [.int n] = some (.int n) := (rfl)
theorem ea_intB {k : Bool} : intF [.bl k] = some (.int (if k = true then 1 else 0)) := (rfl)
def ordD (o : List Int) : D := .tup (o.map .int)
def balD (b : Int × List Int) : D := .tup [.int b.1, ordD b.2]
def votD (bs : List (Int × List Int)) : D := .lst (bs.map balD)
theorem imms_int : ∀ o : List Int, imms (o.map D.int) = true
  | [] => rfl
  | n :: o => by
    show (true && imms (o.map D.int)) = true
    rw [imms_int o]
    rfl
theorem imm_ord (o : List Int) : (ordD o).imm = true := imms_int o
theorem imm_bal (b : Int × List Int) : (balD b).imm = true := by
  show (true && ((ordD b.2).imm && true)) = true
  rw [imm_ord]
  rfl
theorem imms_bal : ∀ bs : List (Int × List Int), imms (bs.map balD) = true
  | [] => rfl
  | b :: bs => by
    show ((balD b).imm && imms (bs.map balD)) = true
    rw [imm_bal, imms_bal bs]
    rfl
theorem seq_ord {o : List Int} : seqD (ordD o) = some (o.map .int) := (rfl)
theorem len_ord {o : List Int} : lenF [ordD o] = some (.int (o.length : Int)) := by
  show some (D.int ((o.map D.int).length : Nat)) = _
  rw [List.length_map]
theorem hol_bindO {x : Option Out} {b : SS → Option Out} {I : SS → Prop} {Q : Out → Prop} (h : hol x fun o => ∃ s, o = .nx s ∧ I s) (k : ∀ s, I s → hol (b s) Q) : hol (bindO x b) Q := by
  obtain ⟨o, rfl, s, rfl, q⟩ := h
  exact k s q
def rngI (m : Nat) : List Int := (List.range m).map fun k => ((k : Nat) : Int)
theorem rng_ord {m : Nat} : D.tup (rngL 0 m) = ordD (rngI m) := by
  rw [rng_nat]
  unfold ordD rngI
  rw [List.map_map]
  rfl
/-- votes as they are drawn -/
structure Good (m : Nat) (b : Int × List Int) : Prop where
  lo : 1 ≤ b.1
  hi : b.1 ≤ 10 ^ 30
  perm : b.2.Perm (rngI m)
theorem Good.mem {m : Nat} {b : Int × List Int} (h : Good m b) {k : Nat} (hk : k < m) : ((k : Nat) : Int) ∈ b.2 := h.perm.mem_iff.mpr (List.mem_map.mpr ⟨k, List.mem_range.mpr hk, rfl⟩)
/-! the place of a thing in an order -/
def plc (o : List Int) (a : Int) : Nat := o.findIdx fun n => n == a
theorem plc_some {o : List Int} {a : Int} (h : a ∈ o) : o.findIdx? (fun n => n == a) = some (plc o a) := by
  unfold plc
  rw [List.findIdx?_eq_some_iff_findIdx_eq]
  exact ⟨List.findIdx_lt_length_of_exists ⟨a, h, by simp⟩, rfl⟩
theorem tix_ord {o : List Int} {a : Int} (h : a ∈ o) : tixF (ordD o) (.int a) = some (.int (plc o a : Int)) := by
  show (ints' (o.map D.int)).bind _ = _
  rw [ints_map, Option.bind_some, plc_some h]
  rfl
theorem plc_lt {o : List Int} {a : Int} (h : a ∈ o) : plc o a < o.length := List.findIdx_lt_length_of_exists ⟨a, h, by simp⟩
theorem plc_get {o : List Int} {a : Int} (h : a ∈ o) : o[plc o a]'(plc_lt h) = a := by
  have := List.findIdx_getElem (p := fun n => n == a) (xs := o) (w := plc_lt h)
  exact eq_of_beq this
end L2

/-! ### M7: tables read by places; lists of things -/
namespace L2
open PySem
def thD (th : List Nat) : D := .lst (th.map nD)
theorem Sq.len {n : Nat} {T : List (List Bool)} (h : Sq n T) {i : Nat} (hi : i < n) : (T.getD i []).length = n := by
  have h1 : i < T.length := by rw [h.1]; exact hi
  have : T.getD i [] = T[i] := by simp [List.getD, List.getElem?_eq_getElem h1]
  rw [this]
  exact h.row h1
theorem ne_self {d : D} (h : okP d = true) : neD d d = some (.bl false) := by
  unfold neD
  rw [h]
  show (if (true && true) = true then some (D.bl (!PyData.eqv (toP d) (toP d))) else none) = _
  rw [if_pos (show (true && true) = true from rfl), SeqAt.eqv_refl _ (okP_get h).1]
  rfl
/-! pairs of a number and an item -/
theorem ev_comp2 {fi : DS → Option (List D)} {c : DS → Option Bool} {f : DE} {δ : DS} : dComp2 fi c f δ = compX (fi δ) (two (compG c f δ)) := by
  unfold dComp2 compX
  cases fi δ <;> rfl
theorem ev_enum {f : DE} {δ : DS} : dEnum f δ = (f δ).bind enumS := (rfl)
end L2

/-! ### M8: dicts, turned and joined lists; the table of votes -/
namespace L2
open PySem
def chO (F G : D → D → Option D) (x y z : Option D) : Option D := match x, y with
  | some x, some y => match F x y with
    | some (.bl true) => z.bind fun z => G y z
    | some (.bl false) => some (.bl false)
    | _ => none
  | _, _ => none
theorem ev_chain {F G : D → D → Option D} {f g h : DE} {δ : DS} : dChain F G f g h δ = chO F G (f δ) (g δ) (h δ) := by
  unfold dChain chO
  cases f δ <;> cases g δ <;> rfl
theorem eo_chain {F G : D → D → Option D} {x y z : D} {b c : Bool} (h1 : F x y = some (.bl b)) (h2 : G y z = some (.bl c)) : chO F G (some x) (some y) (some z) = some (.bl (b && c)) := by
  show (match F x y with
    | some (.bl true) => (some z).bind fun z => G y z
    | some (.bl false) => some (.bl false)
    | _ => none) = _
  rw [h1]
  cases b with
  | true => exact h2
  | false => rfl
def inO : Option D → Option D → Option Bool
  | some x, some y => inK x y
  | _, _ => none
theorem ev_din' {f g : DE} {δ : DS} : dDIn f g δ = inO (f δ) (g δ) := by
  unfold dDIn inO
  cases f δ <;> cases g δ <;> rfl
theorem eo_in {x y : D} : inO (some x) (some y) = inK x y := (rfl)
theorem ev_dnin {f g : DE} {δ : DS} : dDNin f g δ = (dDIn f g δ).map (!·) := (rfl)
def dputV (o k v : Option D) : Option D := match o, k, v with
  | some (.dct ks ds), some dk, some d => (keyD dk).bind fun k => if imms ds = true ∧ ks.length < sizeLine then some (.dct (putKs ks k) (putDs ks ds k d)) else none
  | _, _, _ => none
theorem m_dput {i : Nat} {s : SS} {dk d : D} {ks : List Key} {ds : List D} : (match keyD dk, (some (some (SD.ow (.dct ks ds))) : Option (Option SD)) with
      | some k, some (some (.ow (.dct ks ds))) => if imms ds = true ∧ ks.length < sizeLine then some (Out.nx ((dropBs i s).set i (some (.ow (.dct (putKs ks k) (putDs ks ds k d)))))) else none
      | _, _ => none) = putO i (dputV (some (.dct ks ds)) (some dk) (some d)) s := by
  show _ = putO i ((keyD dk).bind _) s
  cases keyD dk with
  | none => rfl
  | some k =>
    show (if imms ds = true ∧ ks.length < sizeLine then _ else _) = putO i (if imms ds = true ∧ ks.length < sizeLine then _ else _) s
    split <;> rfl
theorem ev_dput {i : Nat} {fk fv : DE} {s : SS} : dput i fk fv s = putO i (dputV (owA i s) (fk (allV s)) (immO (fv (allV s)))) s := by
  unfold dput owA
  rcases fv (allV s) with _ | d
  · rcases fk (allV s) with _ | dk <;> rcases s[i]? with _ | _ | ⟨x | x | ⟨r, x⟩⟩ <;> (first | rfl | (cases x <;> rfl))
  · show (if d.imm = true then _ else _) = putO i (dputV _ _ (if d.imm = true then some d else none)) s
    split
    · rcases fk (allV s) with _ | dk
      · rcases s[i]? with _ | _ | ⟨x | x | ⟨r, x⟩⟩ <;> (first | rfl | (cases x <;> rfl))
      · rw [Option.bind_some]
        rcases s[i]? with _ | _ | ⟨x | x | ⟨r, x⟩⟩
        · cases keyD dk <;> rfl
        · cases keyD dk <;> rfl
        · cases keyD dk <;> rfl
        · cases x with
          | dct ks ds => exact m_dput
          | _ => (cases keyD dk <;> rfl)
        · cases keyD dk <;> rfl
    · rcases fk (allV s) with _ | dk <;> rcases s[i]? with _ | _ | ⟨x | x | ⟨r, x⟩⟩ <;> (first | rfl | (cases x <;> rfl))
def exO (x : Option D) (s : SS) : Option Out := match x with
  | some _ => some (.nx s)
  | none => none
theorem ev_exprN {f : DE} {s : SS} : exprN f s = exO (f (allV s)) s := by
  unfold exprN exO
  cases f (allV s) <;> rfl
theorem eo_ex {d : D} {s : SS} : exO (some d) s = some (.nx s) := (rfl)
def catO : Option D → Option D → Option (List D)
  | some x, some y => catLs x y
  | _, _ => none
theorem ev_cat {f g : DE} {δ : DS} : dCat f g δ = catO (f δ) (g δ) := by
  unfold dCat catO
  cases f δ <;> cases g δ <;> rfl
def revO : Option D → Option D → Option (List D)
  | some x, some y => revLs x y
  | _, _ => none
theorem ev_revL {f g : DE} {δ : DS} : dRevL f g δ = revO (f δ) (g δ) := by
  unfold dRevL revO
  cases f δ <;> cases g δ <;> rfl
theorem eo_revL {ds : List D} : revO (some (.lst ds)) (some (.int (-1))) = some ds.reverse := (rfl)
theorem ea_revT {ds : List D} : revT (.tup ds) (.int (-1)) = some (.tup ds.reverse) := (rfl)
theorem ea_max {i j : Int} : maxF [.int i, .int j] = some (.int (if j > i then j else i)) := (rfl)
theorem eo_cat {ds es : List D} (h : ds.length + es.length ≤ 1000000) : catO (some (.lst ds)) (some (.lst es)) = some (ds ++ es) := if_pos (small_line h)
theorem es_frz0 {d : D} {r : SS} : frzS 0 (some (.ow d) :: r) = some (.sh d) :: r := (rfl)
theorem es_frzS {i : Nat} {x : Option SD} {r : SS} : frzS (i + 1) (x :: r) = x :: frzS i r := by
  unfold frzS
  rw [List.getElem?_cons_succ]
  rcases r[i]? with _ | _ | ⟨y | y | ⟨q, y⟩⟩ <;> rfl
/-! a dict of things told -/
def toldD (p : List Int) : D := .dct (p.map Sum.inl) (p.map fun _ => .bl true)
theorem told_in {p : List Int} {x : Int} (h : x ∉ p) : inK (.int x) (toldD p) = some false := by
  show some (hasK (p.map Sum.inl) (.inl x)) = _
  congr 1
  unfold hasK
  rw [List.any_map, List.any_eq_false]
  intro y hy z
  have : (Sum.inl y : Key) = Sum.inl x := of_decide_eq_true z
  cases this
  exact h hy
theorem imms_true : ∀ p : List Int, imms (p.map fun _ => D.bl true) = true
  | [] => rfl
  | _ :: p => by
    show (true && imms (p.map fun _ => D.bl true)) = true
    rw [imms_true p]
    rfl
theorem told_put {p : List Int} {x : Int} (h : x ∉ p) (hl : p.length ≤ 1000000) : dputV (some (toldD p)) (some (.int x)) (some (.bl true)) = some (toldD (p ++ [x])) := by
  show (if imms (p.map fun _ => D.bl true) = true ∧ (p.map (Sum.inl : Int → Key)).length < sizeLine then _ else _) = _
  rw [if_pos ⟨imms_true p, by rw [List.length_map, PySem.sizeLine_eq]; omega⟩]
  have hh : hasK (p.map Sum.inl) (.inl x) = false := by
    have := told_in h
    exact Option.some.inj this
  unfold putKs putDs toldD
  rw [hh, if_neg Bool.false_ne_true, if_neg Bool.false_ne_true, List.map_append, List.map_append]
  rfl
/-! the table of votes -/
theorem rngI_mem {m : Nat} {x : Int} (h : x ∈ rngI m) : 0 ≤ x ∧ x < (m : Int) := by
  obtain ⟨k, hk, rfl⟩ := List.mem_map.mp h
  have := List.mem_range.mp hk
  omega
theorem rngI_nodup {m : Nat} : (rngI m).Nodup := by
  unfold rngI
  rw [List.nodup_iff_pairwise_ne, List.pairwise_map]
  refine List.Pairwise.imp ?_ (List.nodup_iff_pairwise_ne.mp List.nodup_range)
  intro a b h z
  exact h (by omega)
theorem Good.len {m : Nat} {b : Int × List Int} (h : Good m b) : b.2.length = m := by
  have := h.perm.length_eq
  simpa [rngI] using this
end L2

/-! ### M9: clear, extend, sorted, reversed, range with a step; sums -/
namespace Prg
open PySem L2
def clrV : Option D → Option D
  | some (.lst _) => some (.lst [])
  | _ => none
def extV (o x : Option D) : Option D := match x, o with
  | some (.lst es), some (.lst ds) => if ds.length + es.length ≤ sizeLine then some (.lst (ds ++ es)) else none
  | _, _ => none
theorem ev_clr0 {i : Nat} {s : SS} : clr0 i s = putO i (clrV (owA i s)) s := by
  unfold clr0 owA
  rcases s[i]? with _ | _ | ⟨x | x | ⟨r, x⟩⟩ <;> (first | rfl | (cases x <;> rfl))
theorem ev_ext0N {i : Nat} {f : DE} {s : SS} : ext0N i f s = putO i (extV (owA i s) (f (allV s))) s := by
  unfold ext0N owA
  rcases f (allV s) with _ | d
  · rcases s[i]? with _ | _ | ⟨x | x | ⟨r, x⟩⟩ <;> (first | rfl | (cases x <;> rfl))
  · rcases s[i]? with _ | _ | ⟨x | x | ⟨r, x⟩⟩ <;> cases d <;> (first | rfl | (cases x <;> first | rfl | skip))
    rename_i es ds
    show (if ds.length + es.length ≤ sizeLine then some _ else none) = putO i (if ds.length + es.length ≤ sizeLine then some _ else none) s
    split <;> rfl
theorem eo_clr {ds : List D} : clrV (some (.lst ds)) = some (.lst []) := (rfl)
theorem ev_rng3 {f g h : DE} {δ : DS} : dRng3 f g h δ = rng3 (f δ) (g δ) (h δ) := (rfl)
theorem ev_isN {f : DE} {δ : DS} : dIsN f δ = (f δ).map isN := (rfl)
theorem ev_notN {f : DE} {δ : DS} : dNotN f δ = (f δ).map fun d => !isN d := (rfl)
theorem ea_isB {b c : Bool} : isB (.bl b) (.bl c) = some (.bl (b == c)) := (rfl)
theorem ea_notB {b c : Bool} : notB (.bl b) (.bl c) = some (.bl (b != c)) := (rfl)
theorem ea_revF {ds : List D} : revF [.lst ds] = some ds.reverse := (rfl)
/-! sums -/
def sm (f : Nat → Nat) : Nat → Nat
  | 0 => 0
  | n + 1 => sm f n + f n
end Prg

/-! ### M10: comprehensions in place, loops that leave, things in lists -/
namespace L2
open PySem
theorem ix0 {c : Nat} {r : List Nat} : ixD (thD (c :: r)) (.int 0) = some (.int (c : Int)) := at_nat (k := 0) (xs := (c :: r).map nD) (by simp)
theorem flat_nil : flatO (some []) = some [] := (rfl)
/-! loops that leave with one answer -/
/-! x = y, taken over -/
def movX (x : Option D) (i j : Nat) (s : SS) : Option Out := match x with
  | some d => some (.nx (((dropBs j s).set j none).set i (some (.ow d))))
  | none => none
theorem ev_mov {i j : Nat} {s : SS} : movO i j s = movX (owA j s) i j s := by
  unfold movO owA movX
  generalize s[j]? = z
  rcases z with _ | _ | x
  · rfl
  · rfl
  · cases x <;> rfl
theorem eo_mov {d : D} {i j : Nat} {s : SS} : movX (some d) i j s = some (.nx (((dropBs j s).set j none).set i (some (.ow d)))) := (rfl)
/-! while -/
theorem while_hol {c : DS → Option Bool} {b : SS → Option Out} {QO : Out → Prop} (I : Nat → SS → Prop) : ∀ {n : Nat} {s : SS}, I n s → (∀ n δ, I n δ → ∃ k, c (allV δ) = some k ∧ (k = false → QO (.nx δ)) ∧ (k = true → ∃ n', n = n' + 1 ∧ hol (b δ) fun o => match o with | .nx δ' => I n' δ' | .ct δ' => I n' δ' | .bk δ' => QO (.nx δ') | .rt d => QO (.rt d) | .rb d δ' => QO (.rb d δ') | .ex e δ' => QO (.ex e δ'))) → ∀ {f : Nat}, n < f → hol (whileD c b f s) QO
  | n, s, h0, hs, 0, hf => absurd hf (by omega)
  | n, s, h0, hs, f + 1, hf => by
    obtain ⟨k, ec, h1, h2⟩ := hs n s h0
    unfold whileD
    rw [ec]
    cases k with
    | false => exact ⟨_, rfl, h1 rfl⟩
    | true =>
      obtain ⟨n', rfl, o, eb, q⟩ := h2 rfl
      show hol ((b s).bind _) QO
      rw [eb]
      cases o with
      | nx s1 => exact while_hol I q hs (by omega)
      | ct s1 => exact while_hol I q hs (by omega)
      | bk s1 => exact ⟨_, rfl, q⟩
      | rt d => exact ⟨_, rfl, q⟩
      | rb d s1 => exact ⟨_, rfl, q⟩
      | ex e s1 => exact ⟨_, rfl, q⟩
/-! reversed, parts from the end -/
theorem ev_revS {f : DE} {δ : DS} : dRevS f δ = (f δ).bind revS := (rfl)
/-! loops that only look -/
def ckO (b : Option Bool) (x : Option D) : Option (Option D) := match b with
  | some true => x.bind fun d => if d.imm = true then some (some d) else none
  | some false => some none
  | none => none
theorem ev_chkIf {fc : DS → Option Bool} {fe : DE} {δ : DS} : chkIf fc fe δ = ckO (fc δ) (fe δ) := by
  unfold chkIf ckO
  generalize fc δ = b
  rcases b with _ | _ | _ <;> rfl
theorem eo_ckf {x : Option D} : ckO (some false) x = some none := (rfl)
def csO (x y : Option (Option D)) : Option (Option D) := match x with
  | some none => y
  | some (some d) => some (some d)
  | none => none
theorem ev_chkSeq {f g : DS → Option (Option D)} {δ : DS} : chkSeq f g δ = csO (f δ) (g δ) := by
  unfold chkSeq csO
  generalize f δ = b
  rcases b with _ | _ | _ <;> rfl
theorem eo_csn {y : Option (Option D)} : csO (some none) y = y := (rfl)
def chkX (i : Nat) (ds : Option (List D)) (fb : DS → Option (Option D)) (s : SS) : Option Out := match ds with
  | some ds => if imms ds = true then chkD i fb ds s else none
  | none => none
theorem ev_forC {i : Nat} {fi : DS → Option (List D)} {fb : DS → Option (Option D)} {s : SS} : forC i fi fb s = chkX i (fi (allV s)) fb s := by
  unfold forC chkX
  generalize fi (allV s) = b
  rcases b with _ | _ <;> rfl
/-! exceptions -/
def rsX (c : Nat) (x : Option D) (s : SS) : Option Out := match x with
  | some _ => some (.ex c s)
  | none => none
theorem ev_raise {c : Nat} {f : DE} {s : SS} : raiseO c f s = rsX c (f (allV s)) s := by
  unfold raiseO rsX
  generalize f (allV s) = x
  cases x <;> rfl
theorem eo_raise {c : Nat} {d : D} {s : SS} : rsX c (some d) s = some (.ex c s) := (rfl)
theorem ev_callX {m : List D → Option XO} {fl : List DE} {δ : DS} : dCallX m fl δ = (dArgs fl δ).bind m := (rfl)
theorem ev_callV {m : List D → Option XO} {fl : List DE} {δ : DS} : dCallV m fl δ = valO ((dArgs fl δ).bind m) := (rfl)
theorem ev_callM {F : List D → Option D} {f0 : DE} {fl : List DE} {δ : DS} : dCallM F f0 fl δ = mMV F (f0 δ) (immsO (dArgs fl δ)) := by
  unfold dCallM
  cases f0 δ with
  | none => rfl
  | some d0 =>
    cases dArgs fl δ with
    | none => rfl
    | some args =>
      show (if imms args = true then F (d0 :: args) else none) = mMV F (some d0) (if imms args = true then some args else none)
      split <;> rfl
def repO (x y : Option D) : Option (List D) := x.bind fun a => y.bind fun b => repLs a b
theorem ev_rep {f g : DE} {δ : DS} : dRep f g δ = repO (f δ) (g δ) := (rfl)
def ixXO (o : Option XO) (y : Option D) : Option XO := match o with
  | some (.val d) => y.bind fun y => (ixD d y).bind fun z => if z.imm = true then some (.val z) else none
  | some (.exc c) => some (.exc c)
  | none => none
theorem ev_ixX {F : DS → Option XO} {g : DE} {δ : DS} : dIxX F g δ = ixXO (F δ) (g δ) := by
  unfold dIxX ixXO
  cases F δ with
  | none => rfl
  | some o => cases o <;> rfl
theorem eo_ixXe {c : Nat} {y : Option D} : ixXO (some (.exc c)) y = some (.exc c) := (rfl)
theorem ev_disp1 {f g : DE} {δ : DS} : dDisp1 f g δ = o2 mkD1 (f δ) (g δ) := ev_d2
theorem ev_rngN {f g h : DE} {δ : DS} : dRngN f g h δ = rngN (f δ) (g δ) (h δ) := (rfl)
theorem ea_mkD1 {a b : Int} : mkD1 (.int a) (.int b) = some (.dct [.inl a] [.int b]) := (rfl)
theorem ea_ixLL {ds : List D} {i : Int} : ixL (.lst ds) (.int i) = atI ds i := (rfl)
def forX2 (i j : Nat) (xs : Option (List D)) (b : SS → Option Out) (s : SS) : Option Out := xs.bind fun ds => forD2 i j b ds s
theorem ev_forO2 {i j : Nat} {f : DS → Option (List D)} {g : SS → Option Out} {s : SS} : forO2 i j f g s = forX2 i j (f (shV s)) g s := (rfl)
theorem eo_for2 {i j : Nat} {ds : List D} {b : SS → Option Out} {s : SS} : forX2 i j (some ds) b s = forD2 i j b ds s := (rfl)
theorem eo_val {d : D} : valO (some (.val d)) = some d := (rfl)
def xrO (x : Option XO) (s : SS) : Option Out := match x with
  | some (.val d) => some (.rt d)
  | some (.exc c) => some (.ex c s)
  | none => none
def xeO (x : Option XO) (s : SS) : Option Out := match x with
  | some (.val _) => some (.nx s)
  | some (.exc c) => some (.ex c s)
  | none => none
def xaO (i : Nat) (x : Option XO) (s : SS) : Option Out := match x with
  | some (.val d) => some (.nx (s.set i (some (.ow d))))
  | some (.exc c) => some (.ex c s)
  | none => none
theorem ev_retX {F : DS → Option XO} {s : SS} : retX F s = xrO (F (allV s)) s := by
  unfold retX xrO
  generalize F (allV s) = x
  rcases x with _ | _ | _ <;> rfl
theorem ev_exprX {F : DS → Option XO} {s : SS} : exprX F s = xeO (F (allV s)) s := by
  unfold exprX xeO
  generalize F (allV s) = x
  rcases x with _ | _ | _ <;> rfl
theorem ev_asgX {i : Nat} {F : DS → Option XO} {s : SS} : asgX i F s = xaO i (F (allV s)) s := by
  unfold asgX xaO
  generalize F (allV s) = x
  rcases x with _ | _ | _ <;> rfl
theorem eo_xrV {d : D} {s : SS} : xrO (some (.val d)) s = some (.rt d) := (rfl)
theorem eo_xrE {c : Nat} {s : SS} : xrO (some (.exc c)) s = some (.ex c s) := (rfl)
theorem eo_xeV {d : D} {s : SS} : xeO (some (.val d)) s = some (.nx s) := (rfl)
theorem eo_xeE {c : Nat} {s : SS} : xeO (some (.exc c)) s = some (.ex c s) := (rfl)
theorem eo_xaV {i : Nat} {d : D} {s : SS} : xaO i (some (.val d)) s = some (.nx (s.set i (some (.ow d)))) := (rfl)
theorem eo_xaE {i c : Nat} {s : SS} : xaO i (some (.exc c)) s = some (.ex c s) := (rfl)
theorem eo_bex {c : Nat} {s : SS} {b : SS → Option Out} : bindO (some (.ex c s)) b = some (.ex c s) := (rfl)
def tryX (x : Option Out) (gh : Nat → SS → Option Out) : Option Out := match x with
  | some (.ex c s) => gh c s
  | o => o
theorem ev_try {gb : SS → Option Out} {gh : Nat → SS → Option Out} {s : SS} : tryO gb gh s = tryX (gb s) gh := by
  unfold tryO tryX
  generalize gb s = x
  rcases x with _ | x
  · rfl
  · cases x <;> rfl
theorem eo_trN {s : SS} {gh : Nat → SS → Option Out} : tryX (some (.nx s)) gh = some (.nx s) := (rfl)
theorem eo_trR {d : D} {gh : Nat → SS → Option Out} : tryX (some (.rt d)) gh = some (.rt d) := (rfl)
theorem eo_trE {c : Nat} {s : SS} {gh : Nat → SS → Option Out} : tryX (some (.ex c s)) gh = gh c s := (rfl)
/-! except .. as e -/
def unX (i : Nat) (x : Option Out) : Option Out := match x with
  | some o => unO i o
  | none => none
theorem ev_asX {i : Nat} {x : Str} {g : SS → Option Out} {s : SS} : asXO i x g s = unX i (g (s.set i (some (.sh (.exc x))))) := by
  unfold asXO unX
  generalize g (s.set i (some (.sh (.exc x)))) = z
  cases z <;> rfl
theorem eo_unN {i : Nat} {s : SS} : unX i (some (.nx s)) = some (.nx (s.set i none)) := (rfl)
theorem eo_unR {i : Nat} {d : D} : unX i (some (.rt d)) = some (.rt d) := (rfl)
/-! return [x, y] -/
def r2O (x y : Option D) : Option Out := match x, y with
  | some d, some e => some (.rt (.lst [d, e]))
  | _, _ => none
theorem ev_ret2 {i j : Nat} {s : SS} : ret2 i j s = r2O (ownV s i) (ownV s j) := by
  unfold ret2 r2O
  generalize ownV s i = x
  generalize ownV s j = y
  rcases x with _ | x <;> rcases y with _ | y <;> rfl
theorem eo_r2 {d e : D} : r2O (some d) (some e) = some (.rt (.lst [d, e])) := (rfl)
theorem es_own0 {d : D} {r : SS} : ownV (some (.ow d) :: r) 0 = some d := (rfl)
theorem es_own1 {d : D} {r : SS} : ownV (some (.sh d) :: r) 0 = immO (some d) := (rfl)
theorem es_ownS {x : Option SD} {r : SS} {i : Nat} : ownV (x :: r) (i + 1) = ownV r i := by
  unfold ownV
  rw [List.getElem?_cons_succ]
end L2

/-! ### M11: what the newer layer files want -/
namespace L2
open PySem
def stepO (x y z : Option D) : Option (List D) := x.bind fun x => y.bind fun y => z.bind fun z => stepLs x y z
theorem ev_step {f g h : DE} {δ : DS} : dStep f g h δ = stepO (f δ) (g δ) (h δ) := (rfl)
/-! ### loops over ranges of anything -/
def iv1 : Option D → Option (Int × Nat)
  | some (.int j) => if -(2 ^ 62) ≤ j ∧ j < 2 ^ 62 then some (0, j.toNat) else none
  | _ => none
def iv2 : Option D → Option D → Option (Int × Nat)
  | some (.int i), some (.int j) => if -(2 ^ 62) ≤ i ∧ i < 2 ^ 62 ∧ -(2 ^ 62) ≤ j ∧ j < 2 ^ 62 then some (i, (j - i).toNat) else none
  | _, _ => none
theorem ev_iv1 {f : DE} {δ : DS} : dIv1 f δ = iv1 (f δ) := (rfl)
theorem ev_iv2 {f g : DE} {δ : DS} : dIv2 f g δ = iv2 (f δ) (g δ) := (rfl)
def forIX (i : Nat) (o : Option (Int × Nat)) (b : SS → Option Out) (s : SS) : Option Out := o.bind fun z => forD i b (rngL z.1 z.2) s
theorem ev_forI {i : Nat} {f : DS → Option (Int × Nat)} {b : SS → Option Out} {s : SS} : forI i f b s = forIX i (f (allV s)) b s := (rfl)
theorem eo_forI {i : Nat} {lo : Int} {n : Nat} {b : SS → Option Out} {s : SS} : forIX i (some (lo, n)) b s = forD i b (rngL lo n) s := (rfl)
def r3O (x y z : Option D) : Option Out := match x, y, z with
  | some d, some e, some f => some (.rt (.lst [d, e, f]))
  | _, _, _ => none
theorem ev_ret3 {i j l : Nat} {s : SS} : ret3 i j l s = r3O (ownV s i) (ownV s j) (ownV s l) := by
  unfold ret3 r3O
  generalize ownV s i = x
  generalize ownV s j = y
  generalize ownV s l = z
  rcases x with _ | x <;> rcases y with _ | y <;> rcases z with _ | z <;> rfl
theorem eo_r3 {d e f : D} : r3O (some d) (some e) (some f) = some (.rt (.lst [d, e, f])) := (rfl)
/-! ### what can be compared -/
def okN (n : Nat) (d : D) : Prop := (toP d).canLay0 = true ∧ (toP d).depth ≤ n
def oksN (n : Nat) (ds : List D) : Prop := PyData.canLayAll0 (toPs ds) = true ∧ PyData.depthAll (toPs ds) ≤ n
theorem oks_all {n : Nat} : ∀ {ds : List D}, (∀ d ∈ ds, okN n d) → oksN n ds
  | [], _ => ⟨rfl, Nat.zero_le n⟩
  | d :: ds, h => by
    have h1 := h d List.mem_cons_self
    have h2 := oks_all fun x hx => h x (List.mem_cons_of_mem _ hx)
    constructor
    · show (PyData.canLay0 (toP d) && PyData.canLayAll0 (toPs ds)) = true
      rw [h1.1, h2.1]
      rfl
    · show max (PyData.depth (toP d)) (PyData.depthAll (toPs ds)) ≤ n
      have := h1.2
      have := h2.2
      omega
theorem okN_lst {n : Nat} {ds : List D} (h : ∀ d ∈ ds, okN n d) : okN (n + 1) (.lst ds) := by
  have := oks_all h
  exact ⟨this.1, Nat.succ_le_succ this.2⟩
theorem okN_tup {n : Nat} {ds : List D} (h : ∀ d ∈ ds, okN n d) : okN (n + 1) (.tup ds) := by
  have := oks_all h
  exact ⟨this.1, Nat.succ_le_succ this.2⟩
theorem okN_map {α : Type} {n : Nat} {f : α → D} {xs : List α} (h : ∀ x ∈ xs, okN n (f x)) : okN (n + 1) (.lst (xs.map f)) := okN_lst fun d hd => by
  obtain ⟨x, hx, rfl⟩ := List.mem_map.mp hd
  exact h x hx
theorem okN_mapT {α : Type} {n : Nat} {f : α → D} {xs : List α} (h : ∀ x ∈ xs, okN n (f x)) : okN (n + 1) (.tup (xs.map f)) := okN_tup fun d hd => by
  obtain ⟨x, hx, rfl⟩ := List.mem_map.mp hd
  exact h x hx
theorem okN_up {n k : Nat} {d : D} (h : okN n d) (hk : n ≤ k) : okN k d := ⟨h.1, Nat.le_trans h.2 hk⟩
theorem okN_int {i : Int} : okN 0 (.int i) := ⟨rfl, Nat.le_refl 0⟩
theorem okN_ints (o : List Int) : okN 1 (.lst (o.map .int)) := okN_map fun _ _ => okN_int
theorem okP_of {n : Nat} {d : D} (h : okN n d) (hn : n ≤ 60) : okP d = true := by
  unfold okP
  rw [Bool.and_eq_true, decide_eq_true_eq]
  exact ⟨h.1, Nat.le_trans h.2 hn⟩
theorem okN_2 {n : Nat} {x y : D} (h1 : okN n x) (h2 : okN n y) : okN (n + 1) (.lst [x, y]) := okN_lst fun d hd => by
  rcases List.mem_cons.mp hd with rfl | hd
  · exact h1
  · rw [List.mem_singleton] at hd
    subst hd
    exact h2
/-! ### lists of anything -/
theorem ea_at0 {x : D} {r : List D} : atI (x :: r) 0 = some x := atI_nat (j := 0) rfl
theorem ea_at1 {x y : D} {r : List D} : atI (x :: y :: r) 1 = some y := atI_nat (j := 1) rfl
theorem ea_at2 {x y z : D} {r : List D} : atI (x :: y :: z :: r) 2 = some z := atI_nat (j := 2) rfl
def inD' (ws : List Int) : D := .lst (ws.map .int)
/-! ### tuples of things; cuts -/
def cutTO (x : Option D) (lo hi : Option (Option Int)) : Option D := match x, lo, hi with
  | some (.tup ds), some l, some h => some (.tup (cutL ds l h))
  | _, _, _ => none
theorem ev_cutT {f : DE} {fl fh : DS → Option (Option Int)} {δ : DS} : dCutT f fl fh δ = cutTO (f δ) (fl δ) (fh δ) := by
  unfold dCutT cutTO
  rcases f δ with _ | (_ | _ | _ | _ | _ | _ | _ | _) <;> first | rfl | (cases fl δ <;> cases fh δ <;> rfl)
theorem sIx_nat {n d k : Nat} : HT.sIx n d (some (k : Int)) = min k n := by
  show (if (k : Int) < 0 then ((k : Int) + (n : Int)).toNat else min (k : Int).toNat n) = _
  rw [if_neg (by omega), Int.toNat_natCast]
theorem cutL_take {ds : List D} {k : Nat} (hk : k ≤ ds.length) : cutL ds none (some (k : Int)) = ds.take k := by
  unfold cutL
  have e1 : HT.sIx ds.length 0 none = 0 := rfl
  have e2 : HT.sIx ds.length ds.length (some (k : Int)) = k := by
    show (if (k : Int) < 0 then ((k : Int) + (ds.length : Int)).toNat else min (k : Int).toNat ds.length) = k
    rw [if_neg (by omega)]
    omega
  rw [e1, e2, List.drop_zero, Nat.sub_zero]
theorem cutL_drop {ds : List D} {k : Nat} : cutL ds (some (k : Int)) none = ds.drop k := by
  unfold cutL
  have e1 : HT.sIx ds.length 0 (some (k : Int)) = min k ds.length := by
    show (if (k : Int) < 0 then ((k : Int) + (ds.length : Int)).toNat else min (k : Int).toNat ds.length) = _
    rw [if_neg (by omega), Int.toNat_natCast]
  have e2 : HT.sIx ds.length ds.length none = ds.length := rfl
  rw [e1, e2]
  by_cases h : k ≤ ds.length
  · rw [Nat.min_eq_left h]
    exact List.take_of_length_le (by rw [List.length_drop]; exact Nat.le_refl _)
  · rw [Nat.min_eq_right (by omega), List.drop_of_length_le (Nat.le_refl _), List.drop_of_length_le (by omega), List.take_nil]
/-! ### lists put together, the script among them -/
def catSO (x y : Option D) : Option (List D) := x.bind fun x => y.bind fun y => catSs x y
theorem ev_catS {f g : DE} {δ : DS} : dCatS f g δ = catSO (f δ) (g δ) := (rfl)
/-! ### sorted(set(xs)) -/
theorem ev_sortS {f : DE} {δ : DS} : dSortS f δ = (f δ).bind sortSF := (rfl)
/-! ### max, min of lists -/
/-! ### lists of ints -/
theorem mem_in {x : Int} {ws : List Int} : memD (.int x) (inD' ws) = some (ws.contains x) := by
  unfold inD' memD
  show (if (okP (.int x) && okP (.lst (ws.map .int))) = true then _ else none) = _
  rw [show okP (.lst (ws.map .int)) = true from okP_of (okN_ints ws) (by omega), show okP (.int x) = true from rfl]
  show some ((ws.map D.int).any fun y => PyData.eqv (toP y) (toP (.int x))) = _
  congr 1
  rw [List.any_map, List.contains_eq_any_beq]
  congr 1
  funext y
  show decide (y = x) = (x == y)
  by_cases h : y = x
  · subst h; simp
  · have : ¬ x = y := fun e => h e.symm
    simp [h, this]
theorem nin_in {x : Int} {ws : List Int} : ninD (.int x) (inD' ws) = some (.bl (!ws.contains x)) := by
  unfold ninD
  rw [mem_in]
  rfl
/-! ### `if not` of a call that may raise -/
def xnO (x : Option XO) (g h : Option Out) (s : SS) : Option Out := x.bind fun o => match o with
  | .val (.bl k) => if k = true then h else g
  | .exc c => some (.ex c s)
  | _ => none
theorem ev_ifNX {F : DS → Option XO} {g h : SS → Option Out} {s : SS} : ifNX F g h s = xnO (F (allV s)) (g s) (h s) s := by
  unfold ifNX xnO
  rfl
theorem eo_xnT {g h : Option Out} {s : SS} : xnO (some (.val (.bl true))) g h s = h := (rfl)
theorem eo_xnF {g h : Option Out} {s : SS} : xnO (some (.val (.bl false))) g h s = g := (rfl)
theorem eo_xnE {g h : Option Out} {s : SS} {c : Nat} : xnO (some (.exc c)) g h s = some (.ex c s) := (rfl)
/-! ### `for` over a call that may raise -/
def fxO (x : Option XO) (i : Nat) (g : SS → Option Out) (s : SS) : Option Out := x.bind fun o => match o with
  | .val (.lst ds) => forD i g ds s
  | .exc c => some (.ex c s)
  | _ => none
theorem ev_forX {i : Nat} {F : DS → Option XO} {g : SS → Option Out} {s : SS} : forXO i F g s = fxO (F (allV s)) i g s := by
  unfold forXO fxO
  rfl
theorem eo_fxL {i : Nat} {ds : List D} {g : SS → Option Out} {s : SS} : fxO (some (.val (.lst ds))) i g s = forD i g ds s := (rfl)
theorem eo_fxE {i : Nat} {g : SS → Option Out} {s : SS} {c : Nat} : fxO (some (.exc c)) i g s = some (.ex c s) := (rfl)
end L2

/-! ### M12: what E63 and E64 want -/
namespace L2
open PySem
def cM2 (F : List D → Option D) (a b : Option D) (cs : Option (List D)) : Option D := a.bind fun a => b.bind fun b => cs.bind fun cs => F (a :: b :: cs)
theorem ev_callM2 {F : List D → Option D} {f0 f1 : DE} {fl : List DE} {δ : DS} : dCallM2 F f0 f1 fl δ = cM2 F (f0 δ) (f1 δ) (dArgs fl δ) := (rfl)
theorem eo_cM2 {F : List D → Option D} {a b : D} {cs : List D} : cM2 F (some a) (some b) (some cs) = F (a :: b :: cs) := (rfl)
def r1O (x : Option D) : Option Out := x.map fun d => .rt (.lst [d])
theorem ev_ret1 {i : Nat} {s : SS} : ret1 i s = r1O (ownV s i) := (rfl)
theorem eo_r1 {d : D} : r1O (some d) = some (.rt (.lst [d])) := (rfl)
def apX (x y : Option D) (i j : Nat) (s : SS) : Option Out := match x, y with
  | some d, some (.lst ds) => (appF ds [d]).map fun ds' => .nx (givS i j (.lst ds') s)
  | _, _ => none
theorem ev_appO {i j : Nat} {s : SS} : appO i j s = apX (owA j s) (owA i s) i j s := by
  unfold appO owA apX
  rcases s[j]? with _ | _ | ⟨x | x | ⟨r, x⟩⟩ <;> rcases s[i]? with _ | _ | ⟨y | y | ⟨r', y⟩⟩ <;> (first | rfl | (cases y <;> rfl))
end L2

/-! ### M13: what E66 wants -/
namespace L2
open PySem
def extDV (o x : Option D) : Option D := match x, o with
  | some (.lst es), some (.lst ds) => if imms es = true ∧ ds.length + es.length ≤ sizeLine then some (.lst (ds ++ es)) else none
  | _, _ => none
theorem ev_ext0D {i : Nat} {f : DE} {s : SS} : ext0D i f s = putO i (extDV (owA i s) (f (allV s))) s := by
  unfold ext0D owA
  cases f (allV s) with
  | none => rcases s[i]? with _ | _ | ⟨x | x | ⟨r, x⟩⟩ <;> rfl
  | some d =>
    cases d <;> rcases s[i]? with _ | _ | ⟨x | x | ⟨r, x⟩⟩ <;> (first | rfl | (cases x <;> (first | rfl | (show (if _ then _ else _) = putO i (if _ then _ else _) s; split <;> rfl))))
end L2

/-! ### M14: what E68 wants -/
namespace L2
open PySem
def st0NV (o k v : Option D) : Option D := match o, k, v with
  | some (.lst ds), some (.int k), some d => (ixN ds.length k).map fun j => .lst (ds.set j d)
  | _, _, _ => none
theorem ev_st0N {i : Nat} {fk fv : DE} {s : SS} : st0N i fk fv s = putO i (st0NV (owA i s) (fk (allV s)) (fv (allV s))) s := by
  unfold st0N owA
  rcases fv (allV s) with _ | d
  · rcases fk (allV s) with _ | k <;> rcases s[i]? with _ | _ | ⟨x | x | ⟨r, x⟩⟩ <;> (first | rfl | (cases x <;> first | rfl | (cases k <;> rfl)))
  · rcases fk (allV s) with _ | k
    · rcases s[i]? with _ | _ | ⟨x | x | ⟨r, x⟩⟩ <;> (first | rfl | (cases x <;> rfl))
    · rcases s[i]? with _ | _ | ⟨x | x | ⟨r, x⟩⟩ <;> cases k <;> (first | rfl | (cases x <;> first | rfl | skip))
      rename_i k ds
      show (ixN ds.length k).map _ = putO i ((ixN ds.length k).map _) s
      cases ixN ds.length k <;> rfl
end L2

/-! M15: zip, xs.append(ys.pop(0)) -/
namespace L2
open PySem
end L2

/-! M16: frozen lists of things -/
namespace L2
open PySem
end L2

/-! M17: texts -/
namespace L2
open PySem
end L2

/-! ### M18: the book -/
namespace L2
open PySem
def bkD (a : Addr) (m : Int) (es ls : List D) (n : Int) : D := .obj "Book" a bkKs [.int m, .lst es, .lst ls, .int n]
section
variable {a : Addr} {m n k : Int} {es ls es' : List D} {r : List D} {d d0 o : D} {s : SS} {i j : Nat} {f : DE} {fl : List DE} {args : List D}
theorem sn1 : (("entries" : Str) == "thing_count") = false := by decide +kernel
theorem sn2 : (("earlier" : Str) == "thing_count") = false := by decide +kernel
theorem sn3 : (("earlier" : Str) == "entries") = false := by decide +kernel
theorem sn4 : (("next_number" : Str) == "thing_count") = false := by decide +kernel
theorem sn5 : (("next_number" : Str) == "entries") = false := by decide +kernel
theorem sn6 : (("next_number" : Str) == "earlier") = false := by decide +kernel
theorem se (x : Str) : (x == x) = true := beq_self_eq_true x
theorem fl_cnt : fldF "thing_count" (bkD a m es ls n) = some (.int m) := by
  show List.lookup ("thing_count" : Str) [(("thing_count" : Str), D.int m), ("entries", .lst es), ("earlier", .lst ls), ("next_number", .int n)] = _
  simp only [List.lookup, se]
theorem fl_ent : fldF "entries" (bkD a m es ls n) = some (.lst es) := by
  show List.lookup ("entries" : Str) [(("thing_count" : Str), D.int m), ("entries", .lst es), ("earlier", .lst ls), ("next_number", .int n)] = _
  simp only [List.lookup, se, sn1]
theorem fl_ear : fldF "earlier" (bkD a m es ls n) = some (.lst ls) := by
  show List.lookup ("earlier" : Str) [(("thing_count" : Str), D.int m), ("entries", .lst es), ("earlier", .lst ls), ("next_number", .int n)] = _
  simp only [List.lookup, se, sn2, sn3]
theorem fl_nxt : fldF "next_number" (bkD a m es ls n) = some (.int n) := by
  show List.lookup ("next_number" : Str) [(("thing_count" : Str), D.int m), ("entries", .lst es), ("earlier", .lst ls), ("next_number", .int n)] = _
  simp only [List.lookup, se, sn4, sn5, sn6]
theorem mth_bk {α : Type} {F : List D → Option α} {x : Str} (h : bkKs.contains x = false) : mthF "Book" x F (bkD a m es ls n :: r) = F (bkD a m es ls n :: r) := by
  show (if (("Book" : Str) == "Book" && !bkKs.contains x) = true then _ else _) = _
  rw [h, se]
  rfl
theorem put_nxt : putD "next_number" (.int k) bkKs [.int m, .lst es, .lst ls, .int n] = some [.int m, .lst es, .lst ls, .int k] := by
  show (if ("thing_count" : Str) = "next_number" then _ else Option.map _ (if ("entries" : Str) = "next_number" then _ else Option.map _ (if ("earlier" : Str) = "next_number" then _ else Option.map _ (if ("next_number" : Str) = "next_number" then _ else _)))) = _
  rw [if_neg (by decide +kernel), if_neg (by decide +kernel), if_neg (by decide +kernel), if_pos rfl]
  rfl
/-! the statements -/
theorem owA_get {d : D} (h : owA i s = some d) : s[i]? = some (some (.ow d)) := by
  unfold owA at h
  rcases e : s[i]? with _ | _ | ⟨x | x | ⟨r, x⟩⟩ <;> rw [e] at h <;> first | (cases h; rfl) | cases h
theorem set_nxt (h : owA i s = some (bkD a m es ls n)) (hf : f (allV s) = some (.int k)) : setFO i "next_number" f s = some (.nx ((dropBs i s).set i (some (.ow (bkD a m es ls k))))) := by
  unfold setFO
  rw [hf, Option.bind_some, if_pos (show (D.int k).imm = true from rfl), owA_get h]
  show (if bkKs.length < 1000 then (putD "next_number" (.int k) bkKs [.int m, .lst es, .lst ls, .int n]).map _ else none) = _
  rw [if_pos (by decide), put_nxt]
  rfl
theorem chg_eq (h : owA i s = some (bkD a m es ls n)) (hf : f (allV s) = some (.lst es')) (hl : ls.length ≤ 1000) : chgO i "Book" f s = some (.nx ((dropBs i s).set i (some (.ow (bkD a m es' (ls ++ [.lst es]) n))))) := by
  unfold chgO
  rw [hf, Option.bind_some, owA_get h]
  show (if ("Book" : Str) = "Book" ∧ bkKs = bkKs ∧ ls.length < sizeLine then _ else _) = _
  rw [if_pos ⟨rfl, rfl, by rw [PySem.sizeLine_eq]; omega⟩]
  rfl
def rkO : Option D → SS → Option Out
  | some d, s => if d.imm = true then some (.rb d s) else none
  | none, _ => none
theorem ev_retK : retK f s = rkO (f (allV s)) s := by
  unfold retK rkO
  cases f (allV s) <;> rfl
theorem eo_rkI : rkO (some (.int k)) s = some (.rb (.int k) s) := (rfl)
theorem cB_eq {F : List D → Option (D × D)} (h : owA i s = some d0) (ha : dArgs fl (allV s) = some args) (hi : imms args = true) (hF : F (d0 :: args) = some (o, d)) : cB i F fl s = some (d, (dropBs i s).set i (some (.ow o))) := by
  unfold cB
  rw [ha, Option.bind_some, if_pos hi, owA_get h]
  show (F (d0 :: args)).map _ = _
  rw [hF]
  rfl
theorem hol_new {h : SS → Option Out} {o : Out} (hf : f (allV s) = some (.int m)) (hh : ∀ a, hol (h (s.set i (some (.ow (bkD a m [] [] 0))))) fun x => x = o) : hol (newO i "Book" f h s) fun x => x = o := by
  unfold newO
  rw [hf, Option.bind_some]
  refine ⟨o, newA_eq fun a => ?_, rfl⟩
  obtain ⟨x, e, rfl⟩ := hh a
  exact e
def xpO : Option D → Option (List D) → SS → Option Out
  | some (.lst ds), some args, s => if ds.length < sizeLine then if args.length = 1 then some (.nx s) else none else none
  | _, _, _ => none
theorem ev_exApp : exApp f fl s = xpO (f (allV s)) (dArgs fl (allV s)) s := by
  unfold exApp xpO
  cases f (allV s) with
  | none => rfl
  | some d => cases d <;> first | rfl | (cases dArgs fl (allV s) <;> first | rfl | (rename_i ds; show (if ds.length < sizeLine then _ else _) = _; split <;> rfl))
theorem eo_xp {x : D} (hl : es.length ≤ 1000) : xpO (some (.lst es)) (some [x]) s = some (.nx s) := by
  show (if es.length < sizeLine then _ else _) = _
  rw [if_pos (by rw [PySem.sizeLine_eq]; omega)]
  rfl
theorem eo_rb {b : SS → Option Out} : bindO (some (.rb d s)) b = some (.rb d s) := (rfl)
theorem runB_rb {np nl : Nat} {g : SS → Option Out} {ds : List D} {a : Addr} {m n m' n' : Int} {es ls es' ls' : List D} (hl : ds.length + 1 = np) {x : D} (h : hol (g (some (.ow (bkD a m es ls n)) :: ds.map (fun d => some (.sh d)) ++ List.replicate nl none)) fun o => ∃ r, o = .rb x (some (.ow (bkD a m' es' ls' n')) :: r)) : runB np nl g (bkD a m es ls n :: ds) = some (bkD a m' es' ls' n', x) := by
  obtain ⟨o, e, r, rfl⟩ := h
  show (if ds.length + 1 = np then _ else _) = _
  rw [if_pos hl, e]
  exact if_pos rfl
theorem runB_nx {np nl : Nat} {g : SS → Option Out} {ds : List D} {a : Addr} {m n m' n' : Int} {es ls es' ls' : List D} (hl : ds.length + 1 = np) (h : hol (g (some (.ow (bkD a m es ls n)) :: ds.map (fun d => some (.sh d)) ++ List.replicate nl none)) fun o => ∃ r, o = .nx (some (.ow (bkD a m' es' ls' n')) :: r)) : runB np nl g (bkD a m es ls n :: ds) = some (bkD a m' es' ls' n', .non) := by
  obtain ⟨o, e, r, rfl⟩ := h
  show (if ds.length + 1 = np then _ else _) = _
  rw [if_pos hl, e]
  exact if_pos rfl
theorem isI_int : ∀ o : List Int, (intsO (o.map D.int)).isSome = true
  | [] => rfl
  | n :: r => by
    show ((intsO (r.map D.int)).map (n :: ·)).isSome = true
    rw [Option.isSome_map]
    exact isI_int r
theorem popK_eq {x y : List Int} {p : Nat} (hi : s[i]? = some (some (.ow (.lst (x.map .int))))) (hj : s[j]? = some (some (.ow (.lst (y.map .int))))) (hf : f (allV s) = some (.int (p : Int))) (hp : p < y.length) (hl : x.length ≤ 1000) (hy : y.length ≤ 1000) :
    popAppK i j f s = some (.nx ((dropBs i ((dropBs j s).set j (some (.ow (.lst ((y.eraseIdx p).map .int)))))).set i (some (.ow (.lst ((x ++ [y[p]]).map .int)))))) := by
  unfold popAppK
  rw [hf, Option.bind_some, hi, hj]
  have e1 : (y.map D.int)[((p : Nat) : Int).toNat]? = some (.int y[p]) := by
    rw [Int.toNat_natCast, List.getElem?_map, List.getElem?_eq_getElem hp]
    rfl
  refine (if_pos ⟨by rw [List.length_map, PySem.sizeLine_eq]; omega, isI_int x, isI_int y, by omega, by rw [List.length_map]; omega, by rw [List.length_map, PySem.sizeLine_eq]; omega⟩).trans ?_
  rw [e1]
  show some (Out.nx (popS i j y[p] (x.map .int) ((y.map D.int).eraseIdx ((p : Nat) : Int).toNat) s)) = _
  unfold popS
  rw [Int.toNat_natCast, erase_map, List.map_append]
  rfl
end
end L2

set_option maxHeartbeats 4000000
namespace Prg
open PySem PySem.Spec PyProof.Rows L2
def top (i : Nat) : Stmt := PySem.Challenge.pw_askorder_k81_ballots.main.body.getD i (.Pass ⟨0, 0, 0, 0⟩)
abbrev s_is_thing : Stmt := top 9
abbrev N_is_thing : List Str := ["value", "many"]
abbrev P_is_thing : List Str := ["value", "many"]
abbrev s_tells_each_once : Stmt := top 10
abbrev N_tells_each_once : List Str := ["order", "many", "told", "thing"]
abbrev P_tells_each_once : List Str := ["order", "many"]
abbrev s_raised_order : Stmt := top 11
abbrev N_raised_order : List Str := ["order", "thing", "place"]
abbrev P_raised_order : List Str := ["order", "thing"]
abbrev s__law_whole : Stmt := top 16
abbrev N__law_whole : List Str := ["found"]
abbrev P__law_whole : List Str := ["found"]
abbrev s__law_order : Stmt := top 17
abbrev N__law_order : List Str := ["cell", "many", "left", "order"]
abbrev P__law_order : List Str := ["cell", "many"]
abbrev s__law_raised : Stmt := top 18
abbrev N__law_raised : List Str := ["order", "thing", "at", "row"]
abbrev P__law_raised : List Str := ["order", "thing"]
abbrev s__law_after : Stmt := top 19
abbrev N__law_after : List Str := ["kept", "number", "many", "cell", "rest", "what", "ballot", "at", "one", "thing", "order"]
abbrev P__law_after : List Str := ["kept", "number", "many", "cell"]
abbrev s__law_votes : Stmt := top 20
abbrev N__law_votes : List Str := ["found", "due", "k", "one"]
abbrev P__law_votes : List Str := ["found", "due"]
abbrev s__law_numbers : Stmt := top 21
abbrev N__law_numbers : List Str := ["found", "due"]
abbrev P__law_numbers : List Str := ["found", "due"]
abbrev s__law_done : Stmt := top 22
abbrev N__law_done : List Str := ["book", "deed"]
abbrev P__law_done : List Str := ["book", "deed"]
abbrev s__law_stands : Stmt := top 23
abbrev N__law_stands : List Str := ["book", "many", "kept", "deeds"]
abbrev P__law_stands : List Str := ["book", "many", "kept", "deeds"]
abbrev s_law : Stmt := top 24
abbrev N_law : List Str := ["script", "many", "book", "kept", "number", "deeds", "held", "cell", "told", "found"]
abbrev P_law : List Str := ["script"]
abbrev s_Book___init__ : Stmt := inClass (top 14) 0
abbrev N_Book___init__ : List Str := ["self", "many"]
abbrev P_Book___init__ : List Str := ["self", "many"]
abbrev s_Book_many : Stmt := inClass (top 14) 1
abbrev N_Book_many : List Str := ["self"]
abbrev P_Book_many : List Str := ["self"]
abbrev s_Book_put_in : Stmt := inClass (top 14) 2
abbrev N_Book_put_in : List Str := ["self", "voices", "order", "number"]
abbrev P_Book_put_in : List Str := ["self", "voices", "order"]
abbrev s_Book_go_out : Stmt := inClass (top 14) 3
abbrev N_Book_go_out : List Str := ["self", "number", "place"]
abbrev P_Book_go_out : List Str := ["self", "number"]
abbrev s_Book_raised : Stmt := inClass (top 14) 4
abbrev N_Book_raised : List Str := ["self", "number", "thing", "place", "entry", "changed"]
abbrev P_Book_raised : List Str := ["self", "number", "thing"]
abbrev s_Book_change_to : Stmt := inClass (top 14) 6
abbrev N_Book_change_to : List Str := ["self", "entries"]
abbrev P_Book_change_to : List Str := ["self", "entries"]
abbrev s_Book_place_of : Stmt := inClass (top 14) 7
abbrev N_Book_place_of : List Str := ["self", "number", "numbers"]
abbrev P_Book_place_of : List Str := ["self", "number"]
abbrev s_Book_numbers : Stmt := inClass (top 14) 8
abbrev N_Book_numbers : List Str := ["self"]
abbrev P_Book_numbers : List Str := ["self"]
abbrev s_Book_votes : Stmt := inClass (top 14) 9
abbrev N_Book_votes : List Str := ["self"]
abbrev P_Book_votes : List Str := ["self"]
abbrev s_Book_left : Stmt := inClass (top 14) 11
abbrev N_Book_left : List Str := ["self"]
abbrev P_Book_left : List Str := ["self"]
theorem nd0 : (["found", "due", "one"] : List Str).Nodup := by decide +kernel
theorem nd1 : (["self", "entry"] : List Str).Nodup := by decide +kernel
def g_is_thing : SS → Option Out := (retI (dAnd (dIs "int" (dVar 0)) (dAnd (d1 uNot (dIs "bool" (dVar 0))) (dChain leI ltI (dC (.int 0)) (dVar 0) (dVar 1)))))
def m_is_thing : List D → Option D := runD 2 0 g_is_thing
def g_tells_each_once : SS → Option Out := (seqO (ifO (dTest (d2 neD (dCall lenF [(dVar 0)]) (dVar 1))) (retI (dC (.bl false))) skipO)
  (seqO (asgN 2 (dC (.dct [] [])))
  (seqO (forO 3 (dSeq (dVar 0)) (seqO (ifO (dOrT (dNotT (dTruth (dCall m_is_thing [(dVar 3), (dVar 1)]))) (dDIn (dVar 3) (dVar 2))) (retI (dC (.bl false))) skipO)
  (dput 2 (dVar 3) (dC (.bl true)))))
  (retI (dC (.bl true))))))
def m_tells_each_once : List D → Option D := runD 2 2 g_tells_each_once
def g_raised_order : SS → Option Out := (seqO (asgI 2 (d2 tixF (dVar 0) (dVar 1)))
  (seqO (ifO (dTest (d2 eqD (dVar 2) (dC (.int 0)))) (fun _ => none) skipO)
  (retI (d2 catT (d2 catT (dCutT (dVar 0) dNoPart (dPart (d2 subI (dVar 2) (dC (.int 1))))) (mkT (dArgs [(dVar 1), (d2 ixD (dVar 0) (d2 subI (dVar 2) (dC (.int 1))))]))) (dCutT (dVar 0) (dPart (d2 addI (dVar 2) (dC (.int 1)))) dNoPart)))))
def m_raised_order : List D → Option D := runD 2 1 g_raised_order
def g__law_whole : SS → Option Out := (retI (dAnd (dIs "int" (dVar 0)) (d1 uNot (dIs "bool" (dVar 0)))))
def m__law_whole : List D → Option D := runD 1 0 g__law_whole
def g__law_order : SS → Option Out := (seqO (asgN 2 (mkFlat (dSmall (dRng1 (dVar 1)))))
  (seqO (asgN 3 (mkFlat (dArgs [])))
  (seqO (whileD (dTest (d2 gtI (dCall lenF [(dVar 2)]) (dC (.int 0)))) (seqO (popAppK 3 2 (d2 modI (dVar 0) (dCall lenF [(dVar 2)])))
  (asgI 0 (d2 divI (dVar 0) (d2 addI (dCall lenF [(dVar 2)]) (dC (.int 1)))))) 100)
  (retI (dCall tupF [(dVar 3)])))))
def m__law_order : List D → Option D := runD 2 2 g__law_order
def g__law_raised : SS → Option Out := (seqO (asgI 2 (d2 tixF (dVar 0) (dVar 1)))
  (seqO (ifO (dTest (d2 eqD (dVar 2) (dC (.int 0)))) (retI (dC .non)) skipO)
  (seqO (asgN 3 (mkFlat (dCallL listF [(dVar 0)])))
  (seqO (st0 3 (dVar 2) (d2 ixD (dVar 3) (d2 subI (dVar 2) (dC (.int 1)))))
  (seqO (st0 3 (d2 subI (dVar 2) (dC (.int 1))) (dVar 1))
  (retI (dCall tupF [(dVar 3)])))))))
def m__law_raised : List D → Option D := runD 2 2 g__law_raised
def g__law_after : SS → Option Out := (seqO (asgI 4 (d2 modI (d2 divI (dVar 3) (dC (.int 8))) (d2 powI (dC (.int 10)) (dC (.int 40)))))
  (seqO (asgI 5 (d2 modI (dVar 3) (dC (.int 8))))
  (seqO (ifO (dOrT (dTest (d2 ltI (dVar 5) (dC (.int 4)))) (dTest (d2 eqD (dCall lenF [(dVar 0)]) (dC (.int 0))))) (seqO (asgI 6 (mkT (dArgs [(dVar 1), (d2 addI (dC (.int 1)) (d2 modI (dVar 4) (d2 powI (dC (.int 10)) (dC (.int 30))))), (dCall m__law_order [(d2 divI (dVar 4) (dC (.int 7))), (dVar 2)])])))
  (retN (mkL (dArgs [(mkImm (mkT (dArgs [(dC (.str "put")), (d2 ixD (dVar 6) (dC (.int 1))), (d2 ixD (dVar 6) (dC (.int 2)))]))), (mkFlat (dCat (dVar 0) (mkL (dArgs [(dVar 6)]))))])))) skipO)
  (seqO (asgI 7 (d2 modI (dVar 4) (dCall lenF [(dVar 0)])))
  (seqO (asgI 8 (d2 ixD (dVar 0) (dVar 7)))
  (seqO (ifO (dTest (d2 eqD (dVar 5) (dC (.int 4)))) (retN (mkL (dArgs [(mkImm (mkT (dArgs [(dC (.str "out")), (d2 ixD (dVar 8) (dC (.int 0)))]))), (mkFlat (dCat (mkL (dCut (dVar 0) dNoPart (dPart (dVar 7)))) (mkL (dCut (dVar 0) (dPart (d2 addI (dVar 7) (dC (.int 1)))) dNoPart))))]))) skipO)
  (seqO (asgI 9 (d2 modI (d2 divI (dVar 4) (dC (.int 100))) (dVar 2)))
  (seqO (asgN 10 (dCall m__law_raised [(d2 ixD (dVar 8) (dC (.int 2))), (dVar 9)]))
  (seqO (ifO (dIsN (dVar 10)) (retN (mkFlat (dArgs [(mkT (dArgs [(dC (.str "raise")), (d2 ixD (dVar 8) (dC (.int 0))), (dVar 9)])), (dC .non)]))) skipO)
  (retN (mkL (dArgs [(mkImm (mkT (dArgs [(dC (.str "raise")), (d2 ixD (dVar 8) (dC (.int 0))), (dVar 9)]))), (mkFlat (dCat (mkL (dCat (mkL (dCut (dVar 0) dNoPart (dPart (dVar 7)))) (mkL (dArgs [(mkT (dArgs [(d2 ixD (dVar 8) (dC (.int 0))), (d2 ixD (dVar 8) (dC (.int 1))), (dVar 10)]))])))) (mkL (dCut (dVar 0) (dPart (d2 addI (dVar 7) (dC (.int 1)))) dNoPart))))]))))))))))))
def m__law_after : List D → Option D := runD 4 7 g__law_after
def g__law_votes : SS → Option Out := (seqO (ifO (dOrT (dNotT (dTruth (dIs "list" (dVar 0)))) (dTest (d2 neD (dCall lenF [(dVar 0)]) (dCall lenF [(dVar 1)])))) (retI (dC (.bl false))) skipO)
  (seqO (forO 2 (dRng1 (dCall lenF [(dVar 1)])) (seqO (asgI 3 (d2 ixD (dVar 0) (dVar 2)))
  (seqO (ifO (dOrT (dNotT (dTruth (dIs "tuple" (dVar 3)))) (dOrT (dTest (d2 neD (dCall lenF [(dVar 3)]) (dC (.int 2)))) (dOrT (dNotT (dTruth (dCall m__law_whole [(d2 ixD (dVar 3) (dC (.int 0)))]))) (dNotT (dTruth (dIs "tuple" (d2 ixD (dVar 3) (dC (.int 1))))))))) (retI (dC (.bl false))) skipO)
  (ifO (dTest (d2 neD (dVar 3) (mkT (dArgs [(d2 ixD (d2 ixD (dVar 1) (dVar 2)) (dC (.int 1))), (d2 ixD (d2 ixD (dVar 1) (dVar 2)) (dC (.int 2)))])))) (retI (dC (.bl false))) skipO))))
  (retI (dC (.bl true)))))
def m__law_votes : List D → Option D := runD 2 2 g__law_votes
def g__law_numbers : SS → Option Out := (seqO (ifO (dOrT (dNotT (dTruth (dIs "list" (dVar 0)))) (dTest (d2 gtI (dCall lenF [(mkL (dComp (dSeq (dVar 0)) (dNotT (dTruth (dCall m__law_whole [(dVar 2)]))) (dVar 2)))]) (dC (.int 0))))) (retI (dC (.bl false))) skipO)
  (retI (d2 eqD (dVar 0) (mkL (dComp (dSeq (dVar 1)) dYes (d2 ixD (dVar 2) (dC (.int 0))))))))
def m__law_numbers : List D → Option D := runD 2 0 g__law_numbers
def g_Book_many : SS → Option Out := (retI (d1 (fldF "thing_count") (dVar 0)))
def m_Book_many : List D → Option D := runD 1 0 g_Book_many
def g_Book_put_in : SS → Option Out := (seqO (ifO (dNotT (dTruth (dCall m_tells_each_once [(dVar 2), (d1 (fldF "thing_count") (dVar 0))]))) (fun _ => none) skipO)
  (seqO (ifO (dNotT (dTest (dChain leI leI (dC (.int 1)) (dVar 1) (d2 powI (dC (.int 10)) (dC (.int 30)))))) (fun _ => none) skipO)
  (seqO (ifO (dTest (d2 geI (dCall lenF [(d1 (fldF "entries") (dVar 0))]) (dC (.int 99)))) (fun _ => none) skipO)
  (seqO (asgI 3 (d1 (fldF "next_number") (dVar 0)))
  (seqO (setFO 0 "next_number" (d2 addI (dVar 3) (dC (.int 1))))
  (seqO (chgO 0 "Book" (mkFlat (dCat (d1 (fldF "entries") (dVar 0)) (mkL (dArgs [(mkT (dArgs [(dVar 3), (dVar 1), (dCall tupF [(dVar 2)])]))])))))
  (retK (dVar 3))))))))
def m_Book_put_in : List D → Option (D × D) := runB 3 1 g_Book_put_in
def g_Book_numbers : SS → Option Out := (retN (mkFlat (dComp (dSeq (d1 (fldF "entries") (dVar 0))) dYes (d2 ixD (dVar 1) (dC (.int 0))))))
def m_Book_numbers : List D → Option D := runD 1 0 g_Book_numbers
def g_Book_place_of : SS → Option Out := (seqO (asgN 2 (dCall (mthF "Book" "numbers" m_Book_numbers) [(dVar 0)]))
  (seqO (ifO (dTest (d2 ninD (dVar 1) (dVar 2))) (fun _ => none) skipO)
  (retI (d2 lixF (dVar 2) (dVar 1)))))
def m_Book_place_of : List D → Option D := runD 2 1 g_Book_place_of
def g_Book_go_out : SS → Option Out := (seqO (asgN 2 (dCall (mthF "Book" "place_of" m_Book_place_of) [(dVar 0), (dVar 1)]))
  (chgO 0 "Book" (mkFlat (dCat (mkL (dCut (d1 (fldF "entries") (dVar 0)) dNoPart (dPart (dVar 2)))) (mkL (dCut (d1 (fldF "entries") (dVar 0)) (dPart (d2 addI (dVar 2) (dC (.int 1)))) dNoPart))))))
def m_Book_go_out : List D → Option (D × D) := runB 2 1 g_Book_go_out
def g_Book_raised : SS → Option Out := (seqO (asgN 3 (dCall (mthF "Book" "place_of" m_Book_place_of) [(dVar 0), (dVar 1)]))
  (seqO (ifO (dNotT (dTruth (dCall m_is_thing [(dVar 2), (d1 (fldF "thing_count") (dVar 0))]))) (fun _ => none) skipO)
  (seqO (asgI 4 (d2 ixD (d1 (fldF "entries") (dVar 0)) (dVar 3)))
  (seqO (asgI 5 (mkT (dArgs [(dVar 1), (d2 ixD (dVar 4) (dC (.int 1))), (dCall m_raised_order [(d2 ixD (dVar 4) (dC (.int 2))), (dVar 2)])])))
  (chgO 0 "Book" (mkFlat (dCat (mkL (dCat (mkL (dCut (d1 (fldF "entries") (dVar 0)) dNoPart (dPart (dVar 3)))) (mkL (dArgs [(dVar 5)])))) (mkL (dCut (d1 (fldF "entries") (dVar 0)) (dPart (d2 addI (dVar 3) (dC (.int 1)))) dNoPart)))))))))
def m_Book_raised : List D → Option (D × D) := runB 3 3 g_Book_raised
def g__law_done : SS → Option Out := (seqO (ifO (dTest (d2 eqD (d2 ixD (dVar 1) (dC (.int 0))) (dC (.str "put")))) (retB 0 (mthF "Book" "put_in" m_Book_put_in) [(d2 ixD (dVar 1) (dC (.int 1))), (d2 ixD (dVar 1) (dC (.int 2)))]) skipO)
  (seqO (ifO (dTest (d2 eqD (d2 ixD (dVar 1) (dC (.int 0))) (dC (.str "out")))) (retB 0 (mthF "Book" "go_out" m_Book_go_out) [(d2 ixD (dVar 1) (dC (.int 1)))]) skipO)
  (retB 0 (mthF "Book" "raised" m_Book_raised) [(d2 ixD (dVar 1) (dC (.int 1))), (d2 ixD (dVar 1) (dC (.int 2)))])))
def m__law_done : List D → Option (D × D) := runB 2 0 g__law_done
def g_Book_votes : SS → Option Out := (retN (mkFlat (dComp (dSeq (d1 (fldF "entries") (dVar 0))) dYes (mkT (dArgs [(d2 ixD (dVar 1) (dC (.int 1))), (d2 ixD (dVar 1) (dC (.int 2)))])))))
def m_Book_votes : List D → Option D := runD 1 0 g_Book_votes
def g_Book_left : SS → Option Out := (retI (dCall lenF [(d1 (fldF "earlier") (dVar 0))]))
def m_Book_left : List D → Option D := runD 1 0 g_Book_left
def g__law_stands : SS → Option Out := (seqO (ifO (dOrT (dNotT (dTruth (dCall m__law_votes [(dCall (mthF "Book" "votes" m_Book_votes) [(dVar 0)]), (dVar 2)]))) (dNotT (dTruth (dCall m__law_numbers [(dCall (mthF "Book" "numbers" m_Book_numbers) [(dVar 0)]), (dVar 2)])))) (retI (dC (.bl false))) skipO)
  (retI (dAnd (dCall m__law_whole [(dCall (mthF "Book" "left" m_Book_left) [(dVar 0)])]) (dAnd (d2 eqD (dCall (mthF "Book" "left" m_Book_left) [(dVar 0)]) (dVar 3)) (dAnd (dCall m__law_whole [(dCall (mthF "Book" "many" m_Book_many) [(dVar 0)])]) (d2 eqD (dCall (mthF "Book" "many" m_Book_many) [(dVar 0)]) (dVar 1)))))))
def m__law_stands : List D → Option D := runD 4 0 g__law_stands
noncomputable def g_law : SS → Option Out := (seqO (asgI 1 (dC (.int 1)))
  (seqO (ifO (dTest (d2 gtI (dCall lenF [(dVar 0)]) (dC (.int 0)))) (asgI 1 (d2 addI (dC (.int 1)) (d2 modI (d2 ixD (dVar 0) (dC (.int 0))) (dC (.int 8))))) skipO)
  (newO 2 "Book" (dVar 1)
  (seqO (frzO 8 (asgS 3 (mkL (dArgs []))))
  (seqO (asgI 4 (dC (.int 0)))
  (seqO (asgI 5 (dC (.int 0)))
  (seqO (asgN 6 (mkL (dArgs [(dCall (mthF "Book" "votes" m_Book_votes) [(dVar 2)]), (dCall (mthF "Book" "numbers" m_Book_numbers) [(dVar 2)])])))
  (seqO (forO 7 (dSeq (mkL (dCut (dVar 0) (dPart (dC (.int 1))) (dPart (dC (.int 63)))))) (seqO (asgN 8 (dCall m__law_after [(dVar 3), (dVar 4), (dVar 1), (dVar 7)]))
  (seqO (ifO (dNotN (d2 ixD (dVar 8) (dC (.int 1)))) (seqO (asgB 9 2 m__law_done [(d2 ixD (dVar 8) (dC (.int 0)))])
  (seqO (ifO (dTest (d2 eqD (d2 ixD (d2 ixD (dVar 8) (dC (.int 0))) (dC (.int 0))) (dC (.str "put")))) (seqO (ifO (dOrT (dNotT (dTruth (dCall m__law_whole [(dVar 9)]))) (dTest (d2 neD (dVar 9) (dVar 4)))) (retI (dC (.bl false))) skipO)
  (asgI 4 (d2 addI (dVar 4) (dC (.int 1))))) (ifO (dNotN (dVar 9)) (retI (dC (.bl false))) skipO))
  (seqO (frzO 8 (asgS 3 (d2 ixD (dVar 8) (dC (.int 1)))))
  (asgI 5 (d2 addI (dVar 5) (dC (.int 1))))))) skipO)
  (seqO (ifO (dNotT (dTruth (dCall m__law_stands [(dVar 2), (dVar 1), (dVar 3), (dVar 5)]))) (retI (dC (.bl false))) skipO)
  (seqO (exApp (dCall (mthF "Book" "votes" m_Book_votes) [(dVar 2)]) [(mkT (dArgs [(dC (.int 1)), (mkT (dArgs []))]))])
  (seqO (exApp (dCall (mthF "Book" "numbers" m_Book_numbers) [(dVar 2)]) [(d1 uNeg (dC (.int 1)))])
  (ifO (dAndT (dTest (d2 eqD (d2 modI (dVar 7) (dC (.int 5))) (dC (.int 0)))) (dNotT (dTruth (dCall m__law_stands [(dVar 2), (dVar 1), (dVar 3), (dVar 5)])))) (retI (dC (.bl false))) skipO)))))))
  (retI (d2 eqD (dVar 6) (mkL (dArgs [(mkFlat (dArgs [])), (mkFlat (dArgs []))]))))))))))))
noncomputable def m_law : List D → Option D := runD 1 9 g_law
structure Txt (mg : Str → Option Value) : Prop where
  b_int : mg "int" = none
  b_isinstance : mg "isinstance" = none
  b_bool : mg "bool" = none
  b_len : mg "len" = none
  b_tuple : mg "tuple" = none
  b_list : mg "list" = none
  b_range : mg "range" = none
  g_MOST_BALLOTS : ∃ t, mg "MOST_BALLOTS" = some (.int 99 t)
section
variable {P : Program} {w : World} {K : PySem.W.Frag} {mg : Str → Option Value} {base : Heap} {cl : Nat → Value}
theorem sc_is_thing : FnScope N_is_thing P_is_thing (defScope s_is_thing) := ⟨rfl, rfl, rfl, by decide +kernel, rfl, by decide +kernel, by decide +kernel⟩
theorem ok_is_thing {f : Addr} {fd : FuncData} (F : Fun K "is_thing" "is_thing" s_is_thing f fd) (hm : mg "is_thing" = some (.ref f)) (hb : Binds K fd P_is_thing []) (T : Txt mg) : DefOk P w K mg base 1 "is_thing" (spN K m_is_thing) :=
  defN (k := 0) (g := g_is_thing) F hm hb sc_is_thing rfl rfl fun cdv A outer s H E hr =>
    (ss_one (s_retI (pd_and (pd_isInt rfl T.b_int rfl T.b_isinstance (pd_v 0 (pv 0))) (pd_and (pd_not (pd_isBool rfl T.b_bool rfl T.b_isinstance (pd_v 0 (pv 0)))) (pd_one (pd_chain op_le op_lt o2_bool0 o2_bool0 pd_int (pd_v 0 (pv 0)) (pd_v 1 (pv 1))))))))
theorem sc_tells_each_once : FnScope N_tells_each_once P_tells_each_once (defScope s_tells_each_once) := ⟨rfl, rfl, rfl, by decide +kernel, rfl, by decide +kernel, by decide +kernel⟩
theorem ok_tells_each_once {f : Addr} {fd : FuncData} (F : Fun K "tells_each_once" "tells_each_once" s_tells_each_once f fd) (hm : mg "tells_each_once" = some (.ref f)) (hb : Binds K fd P_tells_each_once []) (T : Txt mg) (G_is_thing : DefOk P w K mg base 1 "is_thing" (spN K m_is_thing)) : DefOk P w K mg base 2 "tells_each_once" (spN K m_tells_each_once) :=
  defN (k := 1) (g := g_tells_each_once) F hm hb sc_tells_each_once rfl rfl fun cdv A outer s H E hr =>
    (ss_cons (s_if (pt_ne hr.units (pd_len rfl T.b_len (pd_v 0 (pv 0))) (pd_v 1 (pv 1))) (ss_one (s_retI pd_bl)) ss_nil)
      (ss_cons (s_asgN (pas_e (i := 2) sc_tells_each_once.nd rfl (Or.inl rfl) pn_dnew))
      (ss_cons (s_for PassesOwn.never rfl (pi_seqD (pd_v 0 (pv 0))) (pg_name (i := 3) sc_tells_each_once.nd rfl (Or.inl rfl)) (ss_cons (s_if (PW.pt (pw_orD (pt_notD (pt_truthD (pd_N (pn_callN G_is_thing (hr.mono (by decide)) rfl (pad_cons (pd_v 3 (pv 3)) (pad_cons (pd_v 1 (pv 1)) pad_nil)))))) (pw_or1D (pt_din hr.units (pd_v 3 (pv 3)) (pd_v 2 (pv 2)))))) (ss_one (s_retI pd_bl)) ss_nil)
      (ss_one (s_dput hr.units (pv 2) (pd_v 3 (pv 3)) pd_bl))))
      (ss_one (s_retI pd_bl)))))
theorem sc_raised_order : FnScope N_raised_order P_raised_order (defScope s_raised_order) := ⟨rfl, rfl, rfl, by decide +kernel, rfl, by decide +kernel, by decide +kernel⟩
theorem ok_raised_order {f : Addr} {fd : FuncData} (F : Fun K "raised_order" "raised_order" s_raised_order f fd) (hm : mg "raised_order" = some (.ref f)) (hb : Binds K fd P_raised_order []) (T : Txt mg) : DefOk P w K mg base 1 "raised_order" (spN K m_raised_order) :=
  defN (k := 0) (g := g_raised_order) F hm hb sc_raised_order rfl rfl fun cdv A outer s H E hr =>
    (ss_cons (s_asgI (pas_e (i := 2) sc_raised_order.nd rfl (Or.inl rfl) (pd_tindex (pd_v 0 (pv 0)) (pd_v 1 (pv 1)))))
      (ss_cons (s_if (pt_eq hr.units (pd_v 2 (pv 2)) pd_int) (ss_one s_never) ss_nil)
      (ss_one (s_retI (pd_catT (pd_catT (pd_sliceT (pd_v 0 (pv 0)) po_noneD (po_someD (pd_sub (pd_v 2 (pv 2)) pd_int))) (pd_tup (pad_cons (pd_v 1 (pv 1)) (pad_cons (pd_ix (pd_v 0 (pv 0)) (pd_sub (pd_v 2 (pv 2)) pd_int)) pad_nil)))) (pd_sliceT (pd_v 0 (pv 0)) (po_someD (pd_add (pd_v 2 (pv 2)) pd_int)) po_noneD))))))
theorem sc__law_whole : FnScope N__law_whole P__law_whole (defScope s__law_whole) := ⟨rfl, rfl, rfl, by decide +kernel, rfl, by decide +kernel, by decide +kernel⟩
theorem ok__law_whole {f : Addr} {fd : FuncData} (F : Fun K "_law_whole" "_law_whole" s__law_whole f fd) (hm : mg "_law_whole" = some (.ref f)) (hb : Binds K fd P__law_whole []) (T : Txt mg) : DefOk P w K mg base 1 "_law_whole" (spN K m__law_whole) :=
  defN (k := 0) (g := g__law_whole) F hm hb sc__law_whole rfl rfl fun cdv A outer s H E hr =>
    (ss_one (s_retI (pd_and (pd_isInt rfl T.b_int rfl T.b_isinstance (pd_v 0 (pv 0))) (pd_one (pd_not (pd_isBool rfl T.b_bool rfl T.b_isinstance (pd_v 0 (pv 0))))))))
theorem sc__law_order : FnScope N__law_order P__law_order (defScope s__law_order) := ⟨rfl, rfl, rfl, by decide +kernel, rfl, by decide +kernel, by decide +kernel⟩
theorem ok__law_order {f : Addr} {fd : FuncData} (F : Fun K "_law_order" "_law_order" s__law_order f fd) (hm : mg "_law_order" = some (.ref f)) (hb : Binds K fd P__law_order []) (T : Txt mg) : DefOk P w K mg base 1 "_law_order" (spN K m__law_order) :=
  defN (k := 0) (g := g__law_order) F hm hb sc__law_order rfl rfl fun cdv A outer s H E hr =>
    (ss_cons (s_asgN (pas_e (i := 2) sc__law_order.nd rfl (Or.inl rfl) (pn_F (pf_listR1 rfl rfl T.b_list rfl T.b_range (pd_v 1 (pv 1))))))
      (ss_cons (s_asgN (pas_e (i := 3) sc__law_order.nd rfl (Or.inl rfl) (pn_F (pf_list pad_nil))))
      (ss_cons (s_while 100 PassesOwn.never (pt_gt (pd_len rfl T.b_len (pd_v 2 (pv 2))) pd_int) (ss_cons (s_popAppK (by decide) (pv 3) (pv 2) (pd_mod (pd_v 0 (pv 0)) (pd_len rfl T.b_len (pd_v 2 (pv 2)))))
      (ss_one (s_asgI (pas_e (i := 0) sc__law_order.nd rfl (Or.inl rfl) (pd_div (pd_v 0 (pv 0)) (pd_add (pd_len rfl T.b_len (pd_v 2 (pv 2))) pd_int)))))))
      (ss_one (s_retI (pd_tupOf rfl T.b_tuple (pd_v 3 (pv 3))))))))
theorem sc__law_raised : FnScope N__law_raised P__law_raised (defScope s__law_raised) := ⟨rfl, rfl, rfl, by decide +kernel, rfl, by decide +kernel, by decide +kernel⟩
theorem ok__law_raised {f : Addr} {fd : FuncData} (F : Fun K "_law_raised" "_law_raised" s__law_raised f fd) (hm : mg "_law_raised" = some (.ref f)) (hb : Binds K fd P__law_raised []) (T : Txt mg) : DefOk P w K mg base 1 "_law_raised" (spN K m__law_raised) :=
  defN (k := 0) (g := g__law_raised) F hm hb sc__law_raised rfl rfl fun cdv A outer s H E hr =>
    (ss_cons (s_asgI (pas_e (i := 2) sc__law_raised.nd rfl (Or.inl rfl) (pd_tindex (pd_v 0 (pv 0)) (pd_v 1 (pv 1)))))
      (ss_cons (s_if (pt_eq hr.units (pd_v 2 (pv 2)) pd_int) (ss_one (s_retI pd_non)) ss_nil)
      (ss_cons (s_asgN (pas_e (i := 3) sc__law_raised.nd rfl (Or.inl rfl) (pn_F (pf_listOf rfl T.b_list (pd_v 0 (pv 0))))))
      (ss_cons (s_st0 (pv 3) (pd_v 2 (pv 2)) (pd_ix (pd_v 3 (pv 3)) (pd_sub (pd_v 2 (pv 2)) pd_int)))
      (ss_cons (s_st0 (pv 3) (pd_sub (pd_v 2 (pv 2)) pd_int) (pd_v 1 (pv 1)))
      (ss_one (s_retI (pd_tupOf rfl T.b_tuple (pd_v 3 (pv 3))))))))))
theorem sc__law_after : FnScope N__law_after P__law_after (defScope s__law_after) := ⟨rfl, rfl, rfl, by decide +kernel, rfl, by decide +kernel, by decide +kernel⟩
theorem ok__law_after {f : Addr} {fd : FuncData} (F : Fun K "_law_after" "_law_after" s__law_after f fd) (hm : mg "_law_after" = some (.ref f)) (hb : Binds K fd P__law_after []) (T : Txt mg) (G__law_order : DefOk P w K mg base 1 "_law_order" (spN K m__law_order)) (G__law_raised : DefOk P w K mg base 1 "_law_raised" (spN K m__law_raised)) : DefOk P w K mg base 2 "_law_after" (spN K m__law_after) :=
  defN (k := 1) (g := g__law_after) F hm hb sc__law_after rfl rfl fun cdv A outer s H E hr =>
    (ss_cons (s_asgI (pas_e (i := 4) sc__law_after.nd rfl (Or.inl rfl) (pd_mod (pd_div (pd_v 3 (pv 3)) pd_int) (pd_pow pd_int pd_int))))
      (ss_cons (s_asgI (pas_e (i := 5) sc__law_after.nd rfl (Or.inl rfl) (pd_mod (pd_v 3 (pv 3)) pd_int)))
      (ss_cons (s_if (PW.pt (pw_orD (pt_lt (pd_v 5 (pv 5)) pd_int) (pw_or1D (pt_eq hr.units (pd_len rfl T.b_len (pd_v 0 (pv 0))) pd_int)))) (ss_cons (s_asgI (pas_e (i := 6) sc__law_after.nd rfl (Or.inl rfl) (pd_tup (pad_cons (pd_v 1 (pv 1)) (pad_cons (pd_add pd_int (pd_mod (pd_v 4 (pv 4)) (pd_pow pd_int pd_int))) (pad_cons (pd_N (pn_callN G__law_order (hr.mono (by decide)) rfl (pad_cons (pd_div (pd_v 4 (pv 4)) pd_int) (pad_cons (pd_v 2 (pv 2)) pad_nil)))) pad_nil))))))
      (ss_one (s_retN (pn_list (pan_cons (pn_I (pd_tup (pad_cons pd_str (pad_cons (pd_ix (pd_v 6 (pv 6)) pd_int) (pad_cons (pd_ix (pd_v 6 (pv 6)) pd_int) pad_nil))))) (pan_cons (pn_F (pf_cat (pd_v 0 (pv 0)) (pd_F (pf_list (pad_cons (pd_v 6 (pv 6)) pad_nil))))) pan_nil)))))) ss_nil)
      (ss_cons (s_asgI (pas_e (i := 7) sc__law_after.nd rfl (Or.inl rfl) (pd_mod (pd_v 4 (pv 4)) (pd_len rfl T.b_len (pd_v 0 (pv 0))))))
      (ss_cons (s_asgI (pas_e (i := 8) sc__law_after.nd rfl (Or.inl rfl) (pd_ix (pd_v 0 (pv 0)) (pd_v 7 (pv 7)))))
      (ss_cons (s_if (pt_eq hr.units (pd_v 5 (pv 5)) pd_int) (ss_one (s_retN (pn_list (pan_cons (pn_I (pd_tup (pad_cons pd_str (pad_cons (pd_ix (pd_v 8 (pv 8)) pd_int) pad_nil)))) (pan_cons (pn_F (pf_cat (pd_F (pf_slice (pd_v 0 (pv 0)) po_noneD (po_someD (pd_v 7 (pv 7))))) (pd_F (pf_slice (pd_v 0 (pv 0)) (po_someD (pd_add (pd_v 7 (pv 7)) pd_int)) po_noneD)))) pan_nil))))) ss_nil)
      (ss_cons (s_asgI (pas_e (i := 9) sc__law_after.nd rfl (Or.inl rfl) (pd_mod (pd_div (pd_v 4 (pv 4)) pd_int) (pd_v 2 (pv 2)))))
      (ss_cons (s_asgN (pas_e (i := 10) sc__law_after.nd rfl (Or.inl rfl) (pn_callN G__law_raised (hr.mono (by decide)) rfl (pad_cons (pd_ix (pd_v 8 (pv 8)) pd_int) (pad_cons (pd_v 9 (pv 9)) pad_nil)))))
      (ss_cons (s_if (pt_isNone (pd_v 10 (pv 10))) (ss_one (s_retN (pn_F (pf_list (pad_cons (pd_tup (pad_cons pd_str (pad_cons (pd_ix (pd_v 8 (pv 8)) pd_int) (pad_cons (pd_v 9 (pv 9)) pad_nil)))) (pad_cons pd_non pad_nil)))))) ss_nil)
      (ss_one (s_retN (pn_list (pan_cons (pn_I (pd_tup (pad_cons pd_str (pad_cons (pd_ix (pd_v 8 (pv 8)) pd_int) (pad_cons (pd_v 9 (pv 9)) pad_nil))))) (pan_cons (pn_F (pf_cat (pd_F (pf_cat (pd_F (pf_slice (pd_v 0 (pv 0)) po_noneD (po_someD (pd_v 7 (pv 7))))) (pd_F (pf_list (pad_cons (pd_tup (pad_cons (pd_ix (pd_v 8 (pv 8)) pd_int) (pad_cons (pd_ix (pd_v 8 (pv 8)) pd_int) (pad_cons (pd_v 10 (pv 10)) pad_nil)))) pad_nil))))) (pd_F (pf_slice (pd_v 0 (pv 0)) (po_someD (pd_add (pd_v 7 (pv 7)) pd_int)) po_noneD)))) pan_nil))))))))))))))
theorem sc__law_votes : FnScope N__law_votes P__law_votes (defScope s__law_votes) := ⟨rfl, rfl, rfl, by decide +kernel, rfl, by decide +kernel, by decide +kernel⟩
theorem ok__law_votes {f : Addr} {fd : FuncData} (F : Fun K "_law_votes" "_law_votes" s__law_votes f fd) (hm : mg "_law_votes" = some (.ref f)) (hb : Binds K fd P__law_votes []) (T : Txt mg) (G__law_whole : DefOk P w K mg base 1 "_law_whole" (spN K m__law_whole)) : DefOk P w K mg base 2 "_law_votes" (spN K m__law_votes) :=
  defN (k := 1) (g := g__law_votes) F hm hb sc__law_votes rfl rfl fun cdv A outer s H E hr =>
    (ss_cons (s_if (PW.pt (pw_orD (pt_notD (pt_truthD (pd_isList rfl T.b_list rfl T.b_isinstance (pd_v 0 (pv 0))))) (pw_or1D (pt_ne hr.units (pd_len rfl T.b_len (pd_v 0 (pv 0))) (pd_len rfl T.b_len (pd_v 1 (pv 1))))))) (ss_one (s_retI pd_bl)) ss_nil)
      (ss_cons (s_for PassesOwn.never rfl (pi_rng1 rfl T.b_range (pd_len rfl T.b_len (pd_v 1 (pv 1)))) (pg_name (i := 2) sc__law_votes.nd rfl (Or.inl rfl)) (ss_cons (s_asgI (pas_e (i := 3) sc__law_votes.nd rfl (Or.inl rfl) (pd_ix (pd_v 0 (pv 0)) (pd_v 2 (pv 2)))))
      (ss_cons (s_if (PW.pt (pw_orD (pt_notD (pt_truthD (pd_isTup rfl T.b_tuple rfl T.b_isinstance (pd_v 3 (pv 3))))) (pw_orD (pt_ne hr.units (pd_len rfl T.b_len (pd_v 3 (pv 3))) pd_int) (pw_orD (pt_notD (pt_truthD (pd_N (pn_callN G__law_whole (hr.mono (by decide)) rfl (pad_cons (pd_ix (pd_v 3 (pv 3)) pd_int) pad_nil))))) (pw_or1D (pt_notD (pt_truthD (pd_isTup rfl T.b_tuple rfl T.b_isinstance (pd_ix (pd_v 3 (pv 3)) pd_int))))))))) (ss_one (s_retI pd_bl)) ss_nil)
      (ss_one (s_if (pt_ne hr.units (pd_v 3 (pv 3)) (pd_tup (pad_cons (pd_ix (pd_ix (pd_v 1 (pv 1)) (pd_v 2 (pv 2))) pd_int) (pad_cons (pd_ix (pd_ix (pd_v 1 (pv 1)) (pd_v 2 (pv 2))) pd_int) pad_nil)))) (ss_one (s_retI pd_bl)) ss_nil)))))
      (ss_one (s_retI pd_bl))))
theorem sc__law_numbers : FnScope N__law_numbers P__law_numbers (defScope s__law_numbers) := ⟨rfl, rfl, rfl, by decide +kernel, rfl, by decide +kernel, by decide +kernel⟩
theorem ok__law_numbers {f : Addr} {fd : FuncData} (F : Fun K "_law_numbers" "_law_numbers" s__law_numbers f fd) (hm : mg "_law_numbers" = some (.ref f)) (hb : Binds K fd P__law_numbers []) (T : Txt mg) (G__law_whole : DefOk P w K mg base 1 "_law_whole" (spN K m__law_whole)) : DefOk P w K mg base 2 "_law_numbers" (spN K m__law_numbers) :=
  defN (k := 1) (g := g__law_numbers) F hm hb sc__law_numbers rfl rfl fun cdv A outer s H E hr =>
    (ss_cons (s_if (PW.pt (pw_orD (pt_notD (pt_truthD (pd_isList rfl T.b_list rfl T.b_isinstance (pd_v 0 (pv 0))))) (pw_or1D (pt_gt (pd_len rfl T.b_len (pd_F (pf_comp (N' := ["found", "due", "one"])  rfl ⟨rfl, rfl, rfl, rfl, rfl⟩ (n := 2) rfl (pi_seqD (pd_v 0 (pv 0))) (fun _ _ _ _ _ => pg_name (i := 2) nd0 rfl (Or.inl rfl)) (fun _ _ _ _ _ => pifs_oneD (pt_notD (pt_truthD (pd_N (pn_callN G__law_whole (hr.mono (by decide)) rfl (pad_cons (pd_v 2 (pv 2)) pad_nil)))))) (fun _ _ _ _ _ => (pd_v 2 (pv 2)))))) pd_int)))) (ss_one (s_retI pd_bl)) ss_nil)
      (ss_one (s_retI (pd_eq hr.units (pd_v 0 (pv 0)) (pd_F (pf_comp (N' := ["found", "due", "one"])  rfl ⟨rfl, rfl, rfl, rfl, rfl⟩ (n := 2) rfl (pi_seqD (pd_v 1 (pv 1))) (fun _ _ _ _ _ => pg_name (i := 2) nd0 rfl (Or.inl rfl)) (fun _ _ _ _ _ => pifs_nilD) (fun _ _ _ _ _ => (pd_ix (pd_v 2 (pv 2)) pd_int))))))))
theorem sc_Book___init__ : FnScope N_Book___init__ P_Book___init__ (defScope s_Book___init__) := ⟨rfl, rfl, rfl, by decide +kernel, rfl, by decide +kernel, by decide +kernel⟩
theorem ok_Book___init__ {C f : Addr} {fd : FuncData} (F : Fun K "__init__" "Book.__init__" s_Book___init__ f fd) (hC : PySem.W.nsIn K mainGlobals "Book" = some (some (.ref C))) (hM : Mk K C f) (hg : mg "Book" = some (.ref C)) (hi : iclsB K C bkKs = true) (hb : Binds K fd P_Book___init__ []) (T : Txt mg) : NewOk P w K mg base 1 "Book" :=
  ⟨C, f, fd, P_Book___init__, hM, hg, hC, hi, hb, fnI (k := 0) F sc_Book___init__ rfl rfl fun cdv A outer s H E hr =>
    pss_cons (ps_fld (pv 0) (pv 1) rfl) (pss_cons (ps_fld (pv 0) (pe_lst pa_nil) rfl) (pss_cons (ps_fld (pv 0) (pe_lst pa_nil) rfl) (pss_one (ps_fld (pv 0) pe_int rfl))))⟩
theorem sc_Book_many : FnScope N_Book_many P_Book_many (defScope s_Book_many) := ⟨rfl, rfl, rfl, by decide +kernel, rfl, by decide +kernel, by decide +kernel⟩
theorem ok_Book_many {C f : Addr} {fd : FuncData} (F : Fun K "many" "Book.many" s_Book_many f fd) (hC : PySem.W.nsIn K mainGlobals "Book" = some (some (.ref C))) (hc : L2.Cls K C) (hm : Meth K C "many" f) (hb : Binds K fd P_Book_many []) (T : Txt mg) : MethOk P w K mg base 1 "Book" "many" (spN K m_Book_many) := by
  exact ⟨C, f, fd, P_Book_many, hC, hc, hm, hb, fnN (k := 0) (g := g_Book_many) F sc_Book_many rfl rfl fun cdv A outer s H E hr =>
    (ss_one (s_retI (pd_fld (pd_v 0 (pv 0)))))⟩
theorem sc_Book_change_to : FnScope N_Book_change_to P_Book_change_to (defScope s_Book_change_to) := ⟨rfl, rfl, rfl, by decide +kernel, rfl, by decide +kernel, by decide +kernel⟩
theorem ok_Book_change_to {C f : Addr} {fd : FuncData} (F : Fun K "change_to" "Book.change_to" s_Book_change_to f fd) (hC : PySem.W.nsIn K mainGlobals "Book" = some (some (.ref C))) (hc : L2.Cls K C) (hm : Meth K C "change_to" f) (hb : Binds K fd P_Book_change_to []) (T : Txt mg) : MethOk P w K mg base 1 "Book" "change_to" (spC K) :=
  ⟨C, f, fd, P_Book_change_to, hC, hc, hm, hb, fnC (k := 0) F sc_Book_change_to rfl rfl fun cdv A outer s H E hr =>
    pss_cons (ps_expr (pe_bm PySem.F.plainAttrs_list PySem.F.slot_list_append PySem.F.type_list_append mt_append (pe_fld (pv 0) rfl) (pa_cons (pe_fld (pv 0) rfl) pa_nil))) (pss_one (ps_fld (pv 0) (pv 1) rfl))⟩
theorem sc_Book_put_in : FnScope N_Book_put_in P_Book_put_in (defScope s_Book_put_in) := ⟨rfl, rfl, rfl, by decide +kernel, rfl, by decide +kernel, by decide +kernel⟩
theorem ok_Book_put_in {C f : Addr} {fd : FuncData} (F : Fun K "put_in" "Book.put_in" s_Book_put_in f fd) (hC : PySem.W.nsIn K mainGlobals "Book" = some (some (.ref C))) (hc : L2.Cls K C) (hm : Meth K C "put_in" f) (hb : Binds K fd P_Book_put_in []) (T : Txt mg) (G_tells_each_once : DefOk P w K mg base 2 "tells_each_once" (spN K m_tells_each_once)) (G_Book_change_to : MethOk P w K mg base 1 "Book" "change_to" (spC K)) : MethOk P w K mg base 3 "Book" "put_in" (spB K m_Book_put_in) := by
  exact ⟨C, f, fd, P_Book_put_in, hC, hc, hm, hb, fnB (k := 2) (g := g_Book_put_in) F sc_Book_put_in rfl rfl fun cdv A outer s H H0 E hr =>
    (ss_cons (s_if (pt_notD (pt_truthD (pd_N (pn_callN G_tells_each_once (hr.mono (by decide)) rfl (pad_cons (pd_v 2 (pv 2)) (pad_cons (pd_fld (pd_v 0 (pv 0))) pad_nil)))))) (ss_one s_never) ss_nil)
      (ss_cons (s_if (pt_notD (pt_chainD op_le op_le o2_bool0 o2_bool0 pd_int (pd_v 1 (pv 1)) (pd_pow pd_int pd_int))) (ss_one s_never) ss_nil)
      (ss_cons (s_if (pt_ge (pd_len rfl T.b_len (pd_fld (pd_v 0 (pv 0)))) (pd_glob rfl T.g_MOST_BALLOTS)) (ss_one s_never) ss_nil)
      (ss_cons (s_asgI (pas_e (i := 3) sc_Book_put_in.nd rfl (Or.inl rfl) (pd_fld (pd_v 0 (pv 0)))))
      (ss_cons (s_setF (pv 0) (pd_add (pd_v 3 (pv 3)) pd_int))
      (ss_cons (s_chg (by decide +kernel) G_Book_change_to (hr.mono (by decide)) (pv 0) (pn_F (pf_cat (pd_fld (pd_v 0 (pv 0))) (pd_F (pf_list (pad_cons (pd_tup (pad_cons (pd_v 3 (pv 3)) (pad_cons (pd_v 1 (pv 1)) (pad_cons (pd_tupOf rfl T.b_tuple (pd_v 2 (pv 2))) pad_nil)))) pad_nil))))))
      (ss_one (s_retK (pd_v 3 (pv 3))))))))))⟩
theorem sc_Book_numbers : FnScope N_Book_numbers P_Book_numbers (defScope s_Book_numbers) := ⟨rfl, rfl, rfl, by decide +kernel, rfl, by decide +kernel, by decide +kernel⟩
theorem ok_Book_numbers {C f : Addr} {fd : FuncData} (F : Fun K "numbers" "Book.numbers" s_Book_numbers f fd) (hC : PySem.W.nsIn K mainGlobals "Book" = some (some (.ref C))) (hc : L2.Cls K C) (hm : Meth K C "numbers" f) (hb : Binds K fd P_Book_numbers []) (T : Txt mg) : MethOk P w K mg base 1 "Book" "numbers" (spN K m_Book_numbers) := by
  exact ⟨C, f, fd, P_Book_numbers, hC, hc, hm, hb, fnN (k := 0) (g := g_Book_numbers) F sc_Book_numbers rfl rfl fun cdv A outer s H E hr =>
    (ss_one (s_retN (pn_F (pf_comp (N' := ["self", "entry"])  rfl ⟨rfl, rfl, rfl, rfl, rfl⟩ (n := 1) rfl (pi_seqD (pd_fld (pd_v 0 (pv 0)))) (fun _ _ _ _ _ => pg_name (i := 1) nd1 rfl (Or.inl rfl)) (fun _ _ _ _ _ => pifs_nilD) (fun _ _ _ _ _ => (pd_ix (pd_v 1 (pv 1)) pd_int))))))⟩
theorem sc_Book_place_of : FnScope N_Book_place_of P_Book_place_of (defScope s_Book_place_of) := ⟨rfl, rfl, rfl, by decide +kernel, rfl, by decide +kernel, by decide +kernel⟩
theorem ok_Book_place_of {C f : Addr} {fd : FuncData} (F : Fun K "place_of" "Book.place_of" s_Book_place_of f fd) (hC : PySem.W.nsIn K mainGlobals "Book" = some (some (.ref C))) (hc : L2.Cls K C) (hm : Meth K C "place_of" f) (hb : Binds K fd P_Book_place_of []) (T : Txt mg) (G_Book_numbers : MethOk P w K mg base 1 "Book" "numbers" (spN K m_Book_numbers)) : MethOk P w K mg base 2 "Book" "place_of" (spN K m_Book_place_of) := by
  exact ⟨C, f, fd, P_Book_place_of, hC, hc, hm, hb, fnN (k := 1) (g := g_Book_place_of) F sc_Book_place_of rfl rfl fun cdv A outer s H E hr =>
    (ss_cons (s_asgN (pas_e (i := 2) sc_Book_place_of.nd rfl (Or.inl rfl) (pn_meth0 G_Book_numbers (hr.mono (by decide)) (pd_v 0 (pv 0)))))
      (ss_cons (s_if (pt_nin hr.units (pd_v 1 (pv 1)) (pd_v 2 (pv 2))) (ss_one s_never) ss_nil)
      (ss_one (s_retI (pd_lindex (pd_v 2 (pv 2)) (pd_v 1 (pv 1)))))))⟩
theorem sc_Book_go_out : FnScope N_Book_go_out P_Book_go_out (defScope s_Book_go_out) := ⟨rfl, rfl, rfl, by decide +kernel, rfl, by decide +kernel, by decide +kernel⟩
theorem ok_Book_go_out {C f : Addr} {fd : FuncData} (F : Fun K "go_out" "Book.go_out" s_Book_go_out f fd) (hC : PySem.W.nsIn K mainGlobals "Book" = some (some (.ref C))) (hc : L2.Cls K C) (hm : Meth K C "go_out" f) (hb : Binds K fd P_Book_go_out []) (T : Txt mg) (G_Book_change_to : MethOk P w K mg base 1 "Book" "change_to" (spC K)) (G_Book_place_of : MethOk P w K mg base 2 "Book" "place_of" (spN K m_Book_place_of)) : MethOk P w K mg base 3 "Book" "go_out" (spB K m_Book_go_out) := by
  exact ⟨C, f, fd, P_Book_go_out, hC, hc, hm, hb, fnB (k := 2) (g := g_Book_go_out) F sc_Book_go_out rfl rfl fun cdv A outer s H H0 E hr =>
    (ss_cons (s_asgN (pas_e (i := 2) sc_Book_go_out.nd rfl (Or.inl rfl) (pn_meth G_Book_place_of (hr.mono (by decide)) (pd_v 0 (pv 0)) (pad_cons (pd_v 1 (pv 1)) pad_nil))))
      (ss_one (s_chg (by decide +kernel) G_Book_change_to (hr.mono (by decide)) (pv 0) (pn_F (pf_cat (pd_F (pf_slice (pd_fld (pd_v 0 (pv 0))) po_noneD (po_someD (pd_v 2 (pv 2))))) (pd_F (pf_slice (pd_fld (pd_v 0 (pv 0))) (po_someD (pd_add (pd_v 2 (pv 2)) pd_int)) po_noneD)))))))⟩
theorem sc_Book_raised : FnScope N_Book_raised P_Book_raised (defScope s_Book_raised) := ⟨rfl, rfl, rfl, by decide +kernel, rfl, by decide +kernel, by decide +kernel⟩
theorem ok_Book_raised {C f : Addr} {fd : FuncData} (F : Fun K "raised" "Book.raised" s_Book_raised f fd) (hC : PySem.W.nsIn K mainGlobals "Book" = some (some (.ref C))) (hc : L2.Cls K C) (hm : Meth K C "raised" f) (hb : Binds K fd P_Book_raised []) (T : Txt mg) (G_is_thing : DefOk P w K mg base 1 "is_thing" (spN K m_is_thing)) (G_raised_order : DefOk P w K mg base 1 "raised_order" (spN K m_raised_order)) (G_Book_change_to : MethOk P w K mg base 1 "Book" "change_to" (spC K)) (G_Book_place_of : MethOk P w K mg base 2 "Book" "place_of" (spN K m_Book_place_of)) : MethOk P w K mg base 3 "Book" "raised" (spB K m_Book_raised) := by
  exact ⟨C, f, fd, P_Book_raised, hC, hc, hm, hb, fnB (k := 2) (g := g_Book_raised) F sc_Book_raised rfl rfl fun cdv A outer s H H0 E hr =>
    (ss_cons (s_asgN (pas_e (i := 3) sc_Book_raised.nd rfl (Or.inl rfl) (pn_meth G_Book_place_of (hr.mono (by decide)) (pd_v 0 (pv 0)) (pad_cons (pd_v 1 (pv 1)) pad_nil))))
      (ss_cons (s_if (pt_notD (pt_truthD (pd_N (pn_callN G_is_thing (hr.mono (by decide)) rfl (pad_cons (pd_v 2 (pv 2)) (pad_cons (pd_fld (pd_v 0 (pv 0))) pad_nil)))))) (ss_one s_never) ss_nil)
      (ss_cons (s_asgI (pas_e (i := 4) sc_Book_raised.nd rfl (Or.inl rfl) (pd_ix (pd_fld (pd_v 0 (pv 0))) (pd_v 3 (pv 3)))))
      (ss_cons (s_asgI (pas_e (i := 5) sc_Book_raised.nd rfl (Or.inl rfl) (pd_tup (pad_cons (pd_v 1 (pv 1)) (pad_cons (pd_ix (pd_v 4 (pv 4)) pd_int) (pad_cons (pd_N (pn_callN G_raised_order (hr.mono (by decide)) rfl (pad_cons (pd_ix (pd_v 4 (pv 4)) pd_int) (pad_cons (pd_v 2 (pv 2)) pad_nil)))) pad_nil))))))
      (ss_one (s_chg (by decide +kernel) G_Book_change_to (hr.mono (by decide)) (pv 0) (pn_F (pf_cat (pd_F (pf_cat (pd_F (pf_slice (pd_fld (pd_v 0 (pv 0))) po_noneD (po_someD (pd_v 3 (pv 3))))) (pd_F (pf_list (pad_cons (pd_v 5 (pv 5)) pad_nil))))) (pd_F (pf_slice (pd_fld (pd_v 0 (pv 0))) (po_someD (pd_add (pd_v 3 (pv 3)) pd_int)) po_noneD))))))))))⟩
theorem sc__law_done : FnScope N__law_done P__law_done (defScope s__law_done) := ⟨rfl, rfl, rfl, by decide +kernel, rfl, by decide +kernel, by decide +kernel⟩
theorem ok__law_done {f : Addr} {fd : FuncData} (F : Fun K "_law_done" "_law_done" s__law_done f fd) (hm : mg "_law_done" = some (.ref f)) (hb : Binds K fd P__law_done []) (T : Txt mg) (G_Book_put_in : MethOk P w K mg base 3 "Book" "put_in" (spB K m_Book_put_in)) (G_Book_go_out : MethOk P w K mg base 3 "Book" "go_out" (spB K m_Book_go_out)) (G_Book_raised : MethOk P w K mg base 3 "Book" "raised" (spB K m_Book_raised)) : DefOk P w K mg base 4 "_law_done" (spB K m__law_done) :=
  defB (k := 3) (g := g__law_done) F hm hb sc__law_done rfl rfl fun cdv A outer s H H0 E hr =>
    (ss_cons (s_if (pt_eq hr.units (pd_ix (pd_v 1 (pv 1)) pd_int) pd_str) (ss_one (s_retB (pb_meth G_Book_put_in (hr.mono (by decide)) (pv 0) (pad_cons (pd_ix (pd_v 1 (pv 1)) pd_int) (pad_cons (pd_ix (pd_v 1 (pv 1)) pd_int) pad_nil))))) ss_nil)
      (ss_cons (s_if (pt_eq hr.units (pd_ix (pd_v 1 (pv 1)) pd_int) pd_str) (ss_one (s_retB (pb_meth G_Book_go_out (hr.mono (by decide)) (pv 0) (pad_cons (pd_ix (pd_v 1 (pv 1)) pd_int) pad_nil)))) ss_nil)
      (ss_one (s_retB (pb_meth G_Book_raised (hr.mono (by decide)) (pv 0) (pad_cons (pd_ix (pd_v 1 (pv 1)) pd_int) (pad_cons (pd_ix (pd_v 1 (pv 1)) pd_int) pad_nil)))))))
theorem sc_Book_votes : FnScope N_Book_votes P_Book_votes (defScope s_Book_votes) := ⟨rfl, rfl, rfl, by decide +kernel, rfl, by decide +kernel, by decide +kernel⟩
theorem ok_Book_votes {C f : Addr} {fd : FuncData} (F : Fun K "votes" "Book.votes" s_Book_votes f fd) (hC : PySem.W.nsIn K mainGlobals "Book" = some (some (.ref C))) (hc : L2.Cls K C) (hm : Meth K C "votes" f) (hb : Binds K fd P_Book_votes []) (T : Txt mg) : MethOk P w K mg base 1 "Book" "votes" (spN K m_Book_votes) := by
  exact ⟨C, f, fd, P_Book_votes, hC, hc, hm, hb, fnN (k := 0) (g := g_Book_votes) F sc_Book_votes rfl rfl fun cdv A outer s H E hr =>
    (ss_one (s_retN (pn_F (pf_comp (N' := ["self", "entry"])  rfl ⟨rfl, rfl, rfl, rfl, rfl⟩ (n := 1) rfl (pi_seqD (pd_fld (pd_v 0 (pv 0)))) (fun _ _ _ _ _ => pg_name (i := 1) nd1 rfl (Or.inl rfl)) (fun _ _ _ _ _ => pifs_nilD) (fun _ _ _ _ _ => (pd_tup (pad_cons (pd_ix (pd_v 1 (pv 1)) pd_int) (pad_cons (pd_ix (pd_v 1 (pv 1)) pd_int) pad_nil))))))))⟩
theorem sc_Book_left : FnScope N_Book_left P_Book_left (defScope s_Book_left) := ⟨rfl, rfl, rfl, by decide +kernel, rfl, by decide +kernel, by decide +kernel⟩
theorem ok_Book_left {C f : Addr} {fd : FuncData} (F : Fun K "left" "Book.left" s_Book_left f fd) (hC : PySem.W.nsIn K mainGlobals "Book" = some (some (.ref C))) (hc : L2.Cls K C) (hm : Meth K C "left" f) (hb : Binds K fd P_Book_left []) (T : Txt mg) : MethOk P w K mg base 1 "Book" "left" (spN K m_Book_left) := by
  exact ⟨C, f, fd, P_Book_left, hC, hc, hm, hb, fnN (k := 0) (g := g_Book_left) F sc_Book_left rfl rfl fun cdv A outer s H E hr =>
    (ss_one (s_retI (pd_len rfl T.b_len (pd_fld (pd_v 0 (pv 0))))))⟩
theorem sc__law_stands : FnScope N__law_stands P__law_stands (defScope s__law_stands) := ⟨rfl, rfl, rfl, by decide +kernel, rfl, by decide +kernel, by decide +kernel⟩
theorem ok__law_stands {f : Addr} {fd : FuncData} (F : Fun K "_law_stands" "_law_stands" s__law_stands f fd) (hm : mg "_law_stands" = some (.ref f)) (hb : Binds K fd P__law_stands []) (T : Txt mg) (G__law_whole : DefOk P w K mg base 1 "_law_whole" (spN K m__law_whole)) (G__law_votes : DefOk P w K mg base 2 "_law_votes" (spN K m__law_votes)) (G__law_numbers : DefOk P w K mg base 2 "_law_numbers" (spN K m__law_numbers)) (G_Book_many : MethOk P w K mg base 1 "Book" "many" (spN K m_Book_many)) (G_Book_numbers : MethOk P w K mg base 1 "Book" "numbers" (spN K m_Book_numbers)) (G_Book_votes : MethOk P w K mg base 1 "Book" "votes" (spN K m_Book_votes)) (G_Book_left : MethOk P w K mg base 1 "Book" "left" (spN K m_Book_left)) : DefOk P w K mg base 3 "_law_stands" (spN K m__law_stands) :=
  defN (k := 2) (g := g__law_stands) F hm hb sc__law_stands rfl rfl fun cdv A outer s H E hr =>
    (ss_cons (s_if (PW.pt (pw_orD (pt_notD (pt_truthD (pd_N (pn_callN G__law_votes (hr.mono (by decide)) rfl (pad_cons (pd_N (pn_meth0 G_Book_votes (hr.mono (by decide)) (pd_v 0 (pv 0)))) (pad_cons (pd_v 2 (pv 2)) pad_nil)))))) (pw_or1D (pt_notD (pt_truthD (pd_N (pn_callN G__law_numbers (hr.mono (by decide)) rfl (pad_cons (pd_N (pn_meth0 G_Book_numbers (hr.mono (by decide)) (pd_v 0 (pv 0)))) (pad_cons (pd_v 2 (pv 2)) pad_nil))))))))) (ss_one (s_retI pd_bl)) ss_nil)
      (ss_one (s_retI (pd_and (pd_N (pn_callN G__law_whole (hr.mono (by decide)) rfl (pad_cons (pd_N (pn_meth0 G_Book_left (hr.mono (by decide)) (pd_v 0 (pv 0)))) pad_nil))) (pd_and (pd_eq hr.units (pd_N (pn_meth0 G_Book_left (hr.mono (by decide)) (pd_v 0 (pv 0)))) (pd_v 3 (pv 3))) (pd_and (pd_N (pn_callN G__law_whole (hr.mono (by decide)) rfl (pad_cons (pd_N (pn_meth0 G_Book_many (hr.mono (by decide)) (pd_v 0 (pv 0)))) pad_nil))) (pd_one (pd_eq hr.units (pd_N (pn_meth0 G_Book_many (hr.mono (by decide)) (pd_v 0 (pv 0)))) (pd_v 1 (pv 1))))))))))
theorem sc_law : FnScope N_law P_law (defScope s_law) := ⟨rfl, rfl, rfl, by decide +kernel, rfl, by decide +kernel, by decide +kernel⟩
theorem ok_law {f : Addr} {fd : FuncData} (F : Fun K "law" "law" s_law f fd) (T : Txt mg) (G__law_whole : DefOk P w K mg base 1 "_law_whole" (spN K m__law_whole)) (G__law_after : DefOk P w K mg base 2 "_law_after" (spN K m__law_after)) (G_Book___init__ : NewOk P w K mg base 1 "Book") (G_Book_numbers : MethOk P w K mg base 1 "Book" "numbers" (spN K m_Book_numbers)) (G__law_done : DefOk P w K mg base 4 "_law_done" (spB K m__law_done)) (G_Book_votes : MethOk P w K mg base 1 "Book" "votes" (spN K m_Book_votes)) (G__law_stands : DefOk P w K mg base 3 "_law_stands" (spN K m__law_stands)) : FnOk P w K mg base CX0 5 f fd P_law (spN K m_law) := 
  fnN (k := 4) (g := g_law) F sc_law rfl rfl fun cdv A outer s H E hr =>
    (ss_cons (s_asgI (pas_e (i := 1) sc_law.nd rfl (Or.inl rfl) pd_int))
      (ss_cons (s_if (pt_gt (pd_len rfl T.b_len (pd_v 0 (pv 0))) pd_int) (ss_one (s_asgI (pas_e (i := 1) sc_law.nd rfl (Or.inl rfl) (pd_add pd_int (pd_mod (pd_ix (pd_v 0 (pv 0)) pd_int) pd_int))))) ss_nil)
      (ss_new (i := 2) sc_law.nd rfl (Or.inl rfl) G_Book___init__ (hr.mono (by decide)) rfl (pd_v 1 (pv 1))
      (ss_cons (s_frz 8 (s_asgS (pas_e (i := 3) sc_law.nd rfl (Or.inl rfl) (pd_F (pf_list pad_nil)))))
      (ss_cons (s_asgI (pas_e (i := 4) sc_law.nd rfl (Or.inl rfl) pd_int))
      (ss_cons (s_asgI (pas_e (i := 5) sc_law.nd rfl (Or.inl rfl) pd_int))
      (ss_cons (s_asgN (pas_e (i := 6) sc_law.nd rfl (Or.inl rfl) (pn_list (pan_cons (pn_meth0 G_Book_votes (hr.mono (by decide)) (pd_v 2 (pv 2))) (pan_cons (pn_meth0 G_Book_numbers (hr.mono (by decide)) (pd_v 2 (pv 2))) pan_nil)))))
      (ss_cons (s_for PassesOwn.never rfl (pi_seqD (pd_F (pf_slice (pd_v 0 (pv 0)) (po_someD pd_int) (po_someD pd_int)))) (pg_name (i := 7) sc_law.nd rfl (Or.inl rfl)) (ss_cons (s_asgN (pas_e (i := 8) sc_law.nd rfl (Or.inl rfl) (pn_callN G__law_after (hr.mono (by decide)) rfl (pad_cons (pd_v 3 (pv 3)) (pad_cons (pd_v 4 (pv 4)) (pad_cons (pd_v 1 (pv 1)) (pad_cons (pd_v 7 (pv 7)) pad_nil)))))))
      (ss_cons (s_if (pt_notNone (pd_ix (pd_v 8 (pv 8)) pd_int)) (ss_cons (s_asgB (pas_e (i := 9) sc_law.nd rfl (Or.inl rfl) (pb_call G__law_done (hr.mono (by decide)) rfl (pv 2) (pad_cons (pd_ix (pd_v 8 (pv 8)) pd_int) pad_nil))))
      (ss_cons (s_if (pt_eq hr.units (pd_ix (pd_ix (pd_v 8 (pv 8)) pd_int) pd_int) pd_str) (ss_cons (s_if (PW.pt (pw_orD (pt_notD (pt_truthD (pd_N (pn_callN G__law_whole (hr.mono (by decide)) rfl (pad_cons (pd_v 9 (pv 9)) pad_nil))))) (pw_or1D (pt_ne hr.units (pd_v 9 (pv 9)) (pd_v 4 (pv 4)))))) (ss_one (s_retI pd_bl)) ss_nil)
      (ss_one (s_asgI (pas_e (i := 4) sc_law.nd rfl (Or.inl rfl) (pd_add (pd_v 4 (pv 4)) pd_int))))) (ss_one (s_if (pt_notNone (pd_v 9 (pv 9))) (ss_one (s_retI pd_bl)) ss_nil)))
      (ss_cons (s_frz 8 (s_asgS (pas_e (i := 3) sc_law.nd rfl (Or.inl rfl) (pd_ix (pd_v 8 (pv 8)) pd_int))))
      (ss_one (s_asgI (pas_e (i := 5) sc_law.nd rfl (Or.inl rfl) (pd_add (pd_v 5 (pv 5)) pd_int))))))) ss_nil)
      (ss_cons (s_if (pt_notD (pt_truthD (pd_N (pn_callN G__law_stands (hr.mono (by decide)) rfl (pad_cons (pd_v 2 (pv 2)) (pad_cons (pd_v 1 (pv 1)) (pad_cons (pd_v 3 (pv 3)) (pad_cons (pd_v 5 (pv 5)) pad_nil)))))))) (ss_one (s_retI pd_bl)) ss_nil)
      (ss_cons (s_exApp (pn_meth0 G_Book_votes (hr.mono (by decide)) (pd_v 2 (pv 2))) (pad_cons (pd_tup (pad_cons pd_int (pad_cons (pd_tup pad_nil) pad_nil))) pad_nil))
      (ss_cons (s_exApp (pn_meth0 G_Book_numbers (hr.mono (by decide)) (pd_v 2 (pv 2))) (pad_cons (pd_neg pd_int) pad_nil))
      (ss_one (s_if (PW.pt (pw_andD (pt_eq hr.units (pd_mod (pd_v 7 (pv 7)) pd_int) pd_int) (pw_and1D (pt_notD (pt_truthD (pd_N (pn_callN G__law_stands (hr.mono (by decide)) rfl (pad_cons (pd_v 2 (pv 2)) (pad_cons (pd_v 1 (pv 1)) (pad_cons (pd_v 3 (pv 3)) (pad_cons (pd_v 5 (pv 5)) pad_nil))))))))))) (ss_one (s_retI pd_bl)) ss_nil))))))))
      (ss_one (s_retI (pd_eq hr.units (pd_v 6 (pv 6)) (pd_N (pn_list (pan_cons (pn_F (pf_list pad_nil)) (pan_cons (pn_F (pf_list pad_nil)) pan_nil)))))))))))))))
end
theorem all_mk {l : PySem.W.OpenLaw} {w : World} {K : PySem.W.Frag} {h : Heap} {mg : Str → Option Value} {fa : Addr} (X : K.In h) (G : h.Ns mainGlobals mg) (hfa : mg "law" = some (.ref fa))
    {f_is_thing f_tells_each_once f_raised_order f__law_whole f__law_order f__law_raised f__law_after f__law_votes f__law_numbers f__law_done f__law_stands f_law f_Book___init__ f_Book_many f_Book_put_in f_Book_go_out f_Book_raised f_Book_change_to f_Book_place_of f_Book_numbers f_Book_votes f_Book_left : Addr} {od_is_thing an_is_thing : Option Addr} {sl_is_thing : Array (Option Value)} {oc_is_thing kV_is_thing dc_is_thing pm_is_thing cd_is_thing ct_is_thing : Value} {od_tells_each_once an_tells_each_once : Option Addr} {sl_tells_each_once : Array (Option Value)} {oc_tells_each_once kV_tells_each_once dc_tells_each_once pm_tells_each_once cd_tells_each_once ct_tells_each_once : Value} {od_raised_order an_raised_order : Option Addr} {sl_raised_order : Array (Option Value)} {oc_raised_order kV_raised_order dc_raised_order pm_raised_order cd_raised_order ct_raised_order : Value} {od__law_whole an__law_whole : Option Addr} {sl__law_whole : Array (Option Value)} {oc__law_whole kV__law_whole dc__law_whole pm__law_whole cd__law_whole ct__law_whole : Value} {od__law_order an__law_order : Option Addr} {sl__law_order : Array (Option Value)} {oc__law_order kV__law_order dc__law_order pm__law_order cd__law_order ct__law_order : Value} {od__law_raised an__law_raised : Option Addr} {sl__law_raised : Array (Option Value)} {oc__law_raised kV__law_raised dc__law_raised pm__law_raised cd__law_raised ct__law_raised : Value} {od__law_after an__law_after : Option Addr} {sl__law_after : Array (Option Value)} {oc__law_after kV__law_after dc__law_after pm__law_after cd__law_after ct__law_after : Value} {od__law_votes an__law_votes : Option Addr} {sl__law_votes : Array (Option Value)} {oc__law_votes kV__law_votes dc__law_votes pm__law_votes cd__law_votes ct__law_votes : Value} {od__law_numbers an__law_numbers : Option Addr} {sl__law_numbers : Array (Option Value)} {oc__law_numbers kV__law_numbers dc__law_numbers pm__law_numbers cd__law_numbers ct__law_numbers : Value} {od__law_done an__law_done : Option Addr} {sl__law_done : Array (Option Value)} {oc__law_done kV__law_done dc__law_done pm__law_done cd__law_done ct__law_done : Value} {od__law_stands an__law_stands : Option Addr} {sl__law_stands : Array (Option Value)} {oc__law_stands kV__law_stands dc__law_stands pm__law_stands cd__law_stands ct__law_stands : Value} {od_law an_law : Option Addr} {sl_law : Array (Option Value)} {oc_law kV_law dc_law pm_law cd_law ct_law : Value} {od_Book___init__ an_Book___init__ : Option Addr} {sl_Book___init__ : Array (Option Value)} {oc_Book___init__ kV_Book___init__ dc_Book___init__ pm_Book___init__ cd_Book___init__ ct_Book___init__ : Value} {od_Book_many an_Book_many : Option Addr} {sl_Book_many : Array (Option Value)} {oc_Book_many kV_Book_many dc_Book_many pm_Book_many cd_Book_many ct_Book_many : Value} {od_Book_put_in an_Book_put_in : Option Addr} {sl_Book_put_in : Array (Option Value)} {oc_Book_put_in kV_Book_put_in dc_Book_put_in pm_Book_put_in cd_Book_put_in ct_Book_put_in : Value} {od_Book_go_out an_Book_go_out : Option Addr} {sl_Book_go_out : Array (Option Value)} {oc_Book_go_out kV_Book_go_out dc_Book_go_out pm_Book_go_out cd_Book_go_out ct_Book_go_out : Value} {od_Book_raised an_Book_raised : Option Addr} {sl_Book_raised : Array (Option Value)} {oc_Book_raised kV_Book_raised dc_Book_raised pm_Book_raised cd_Book_raised ct_Book_raised : Value} {od_Book_change_to an_Book_change_to : Option Addr} {sl_Book_change_to : Array (Option Value)} {oc_Book_change_to kV_Book_change_to dc_Book_change_to pm_Book_change_to cd_Book_change_to ct_Book_change_to : Value} {od_Book_place_of an_Book_place_of : Option Addr} {sl_Book_place_of : Array (Option Value)} {oc_Book_place_of kV_Book_place_of dc_Book_place_of pm_Book_place_of cd_Book_place_of ct_Book_place_of : Value} {od_Book_numbers an_Book_numbers : Option Addr} {sl_Book_numbers : Array (Option Value)} {oc_Book_numbers kV_Book_numbers dc_Book_numbers pm_Book_numbers cd_Book_numbers ct_Book_numbers : Value} {od_Book_votes an_Book_votes : Option Addr} {sl_Book_votes : Array (Option Value)} {oc_Book_votes kV_Book_votes dc_Book_votes pm_Book_votes cd_Book_votes ct_Book_votes : Value} {od_Book_left an_Book_left : Option Addr} {sl_Book_left : Array (Option Value)} {oc_Book_left kV_Book_left dc_Book_left pm_Book_left cd_Book_left ct_Book_left : Value} {C_Book : Addr}  {w_MOST_BALLOTS : _} 
    (x_Book : PySem.W.nsIn K mainGlobals "Book" = some (some (.ref C_Book))) (ic_Book : iclsB K C_Book bkKs = true) (mk_Book : PySem.W.makesIn K C_Book = true) (kc_Book : PySem.W.keepIn K (.ref C_Book) = true)
    (a_is_thing : PySem.W.nsIn K mainGlobals "is_thing" = some (some (.ref f_is_thing))) (l_is_thing : K.lookup f_is_thing = some ⟨oc_is_thing, od_is_thing, .func (PySem.W.fnOf "is_thing" "is_thing" (defArgs s_is_thing) (defBody s_is_thing) (defScope s_is_thing) .none kV_is_thing dc_is_thing pm_is_thing an_is_thing cd_is_thing ct_is_thing), sl_is_thing⟩) (c_is_thing : PySem.W.codeIn K cd_is_thing "is_thing" = true) (k_is_thing : PySem.W.keepIn K (.ref f_is_thing) = true)
    (a_tells_each_once : PySem.W.nsIn K mainGlobals "tells_each_once" = some (some (.ref f_tells_each_once))) (l_tells_each_once : K.lookup f_tells_each_once = some ⟨oc_tells_each_once, od_tells_each_once, .func (PySem.W.fnOf "tells_each_once" "tells_each_once" (defArgs s_tells_each_once) (defBody s_tells_each_once) (defScope s_tells_each_once) .none kV_tells_each_once dc_tells_each_once pm_tells_each_once an_tells_each_once cd_tells_each_once ct_tells_each_once), sl_tells_each_once⟩) (c_tells_each_once : PySem.W.codeIn K cd_tells_each_once "tells_each_once" = true) (k_tells_each_once : PySem.W.keepIn K (.ref f_tells_each_once) = true)
    (a_raised_order : PySem.W.nsIn K mainGlobals "raised_order" = some (some (.ref f_raised_order))) (l_raised_order : K.lookup f_raised_order = some ⟨oc_raised_order, od_raised_order, .func (PySem.W.fnOf "raised_order" "raised_order" (defArgs s_raised_order) (defBody s_raised_order) (defScope s_raised_order) .none kV_raised_order dc_raised_order pm_raised_order an_raised_order cd_raised_order ct_raised_order), sl_raised_order⟩) (c_raised_order : PySem.W.codeIn K cd_raised_order "raised_order" = true) (k_raised_order : PySem.W.keepIn K (.ref f_raised_order) = true)
    (a__law_whole : PySem.W.nsIn K mainGlobals "_law_whole" = some (some (.ref f__law_whole))) (l__law_whole : K.lookup f__law_whole = some ⟨oc__law_whole, od__law_whole, .func (PySem.W.fnOf "_law_whole" "_law_whole" (defArgs s__law_whole) (defBody s__law_whole) (defScope s__law_whole) .none kV__law_whole dc__law_whole pm__law_whole an__law_whole cd__law_whole ct__law_whole), sl__law_whole⟩) (c__law_whole : PySem.W.codeIn K cd__law_whole "_law_whole" = true) (k__law_whole : PySem.W.keepIn K (.ref f__law_whole) = true)
    (a__law_order : PySem.W.nsIn K mainGlobals "_law_order" = some (some (.ref f__law_order))) (l__law_order : K.lookup f__law_order = some ⟨oc__law_order, od__law_order, .func (PySem.W.fnOf "_law_order" "_law_order" (defArgs s__law_order) (defBody s__law_order) (defScope s__law_order) .none kV__law_order dc__law_order pm__law_order an__law_order cd__law_order ct__law_order), sl__law_order⟩) (c__law_order : PySem.W.codeIn K cd__law_order "_law_order" = true) (k__law_order : PySem.W.keepIn K (.ref f__law_order) = true)
    (a__law_raised : PySem.W.nsIn K mainGlobals "_law_raised" = some (some (.ref f__law_raised))) (l__law_raised : K.lookup f__law_raised = some ⟨oc__law_raised, od__law_raised, .func (PySem.W.fnOf "_law_raised" "_law_raised" (defArgs s__law_raised) (defBody s__law_raised) (defScope s__law_raised) .none kV__law_raised dc__law_raised pm__law_raised an__law_raised cd__law_raised ct__law_raised), sl__law_raised⟩) (c__law_raised : PySem.W.codeIn K cd__law_raised "_law_raised" = true) (k__law_raised : PySem.W.keepIn K (.ref f__law_raised) = true)
    (a__law_after : PySem.W.nsIn K mainGlobals "_law_after" = some (some (.ref f__law_after))) (l__law_after : K.lookup f__law_after = some ⟨oc__law_after, od__law_after, .func (PySem.W.fnOf "_law_after" "_law_after" (defArgs s__law_after) (defBody s__law_after) (defScope s__law_after) .none kV__law_after dc__law_after pm__law_after an__law_after cd__law_after ct__law_after), sl__law_after⟩) (c__law_after : PySem.W.codeIn K cd__law_after "_law_after" = true) (k__law_after : PySem.W.keepIn K (.ref f__law_after) = true)
    (a__law_votes : PySem.W.nsIn K mainGlobals "_law_votes" = some (some (.ref f__law_votes))) (l__law_votes : K.lookup f__law_votes = some ⟨oc__law_votes, od__law_votes, .func (PySem.W.fnOf "_law_votes" "_law_votes" (defArgs s__law_votes) (defBody s__law_votes) (defScope s__law_votes) .none kV__law_votes dc__law_votes pm__law_votes an__law_votes cd__law_votes ct__law_votes), sl__law_votes⟩) (c__law_votes : PySem.W.codeIn K cd__law_votes "_law_votes" = true) (k__law_votes : PySem.W.keepIn K (.ref f__law_votes) = true)
    (a__law_numbers : PySem.W.nsIn K mainGlobals "_law_numbers" = some (some (.ref f__law_numbers))) (l__law_numbers : K.lookup f__law_numbers = some ⟨oc__law_numbers, od__law_numbers, .func (PySem.W.fnOf "_law_numbers" "_law_numbers" (defArgs s__law_numbers) (defBody s__law_numbers) (defScope s__law_numbers) .none kV__law_numbers dc__law_numbers pm__law_numbers an__law_numbers cd__law_numbers ct__law_numbers), sl__law_numbers⟩) (c__law_numbers : PySem.W.codeIn K cd__law_numbers "_law_numbers" = true) (k__law_numbers : PySem.W.keepIn K (.ref f__law_numbers) = true)
    (a__law_done : PySem.W.nsIn K mainGlobals "_law_done" = some (some (.ref f__law_done))) (l__law_done : K.lookup f__law_done = some ⟨oc__law_done, od__law_done, .func (PySem.W.fnOf "_law_done" "_law_done" (defArgs s__law_done) (defBody s__law_done) (defScope s__law_done) .none kV__law_done dc__law_done pm__law_done an__law_done cd__law_done ct__law_done), sl__law_done⟩) (c__law_done : PySem.W.codeIn K cd__law_done "_law_done" = true) (k__law_done : PySem.W.keepIn K (.ref f__law_done) = true)
    (a__law_stands : PySem.W.nsIn K mainGlobals "_law_stands" = some (some (.ref f__law_stands))) (l__law_stands : K.lookup f__law_stands = some ⟨oc__law_stands, od__law_stands, .func (PySem.W.fnOf "_law_stands" "_law_stands" (defArgs s__law_stands) (defBody s__law_stands) (defScope s__law_stands) .none kV__law_stands dc__law_stands pm__law_stands an__law_stands cd__law_stands ct__law_stands), sl__law_stands⟩) (c__law_stands : PySem.W.codeIn K cd__law_stands "_law_stands" = true) (k__law_stands : PySem.W.keepIn K (.ref f__law_stands) = true)
    (a_law : PySem.W.nsIn K mainGlobals "law" = some (some (.ref f_law))) (l_law : K.lookup f_law = some ⟨oc_law, od_law, .func (PySem.W.fnOf "law" "law" (defArgs s_law) (defBody s_law) (defScope s_law) .none kV_law dc_law pm_law an_law cd_law ct_law), sl_law⟩) (c_law : PySem.W.codeIn K cd_law "law" = true) (k_law : PySem.W.keepIn K (.ref f_law) = true)
    (a_Book___init__ : PySem.W.findIn K (.ref C_Book) "__init__" = some (some (.ref f_Book___init__))) (l_Book___init__ : K.lookup f_Book___init__ = some ⟨oc_Book___init__, od_Book___init__, .func (PySem.W.fnOf "__init__" "Book.__init__" (defArgs s_Book___init__) (defBody s_Book___init__) (defScope s_Book___init__) .none kV_Book___init__ dc_Book___init__ pm_Book___init__ an_Book___init__ cd_Book___init__ ct_Book___init__), sl_Book___init__⟩) (c_Book___init__ : PySem.W.codeIn K cd_Book___init__ "Book.__init__" = true) (k_Book___init__ : PySem.W.keepIn K (.ref f_Book___init__) = true)
    (a_Book_many : PySem.W.findIn K (.ref C_Book) "many" = some (some (.ref f_Book_many))) (l_Book_many : K.lookup f_Book_many = some ⟨oc_Book_many, od_Book_many, .func (PySem.W.fnOf "many" "Book.many" (defArgs s_Book_many) (defBody s_Book_many) (defScope s_Book_many) .none kV_Book_many dc_Book_many pm_Book_many an_Book_many cd_Book_many ct_Book_many), sl_Book_many⟩) (c_Book_many : PySem.W.codeIn K cd_Book_many "Book.many" = true) (k_Book_many : PySem.W.keepIn K (.ref f_Book_many) = true)
    (a_Book_put_in : PySem.W.findIn K (.ref C_Book) "put_in" = some (some (.ref f_Book_put_in))) (l_Book_put_in : K.lookup f_Book_put_in = some ⟨oc_Book_put_in, od_Book_put_in, .func (PySem.W.fnOf "put_in" "Book.put_in" (defArgs s_Book_put_in) (defBody s_Book_put_in) (defScope s_Book_put_in) .none kV_Book_put_in dc_Book_put_in pm_Book_put_in an_Book_put_in cd_Book_put_in ct_Book_put_in), sl_Book_put_in⟩) (c_Book_put_in : PySem.W.codeIn K cd_Book_put_in "Book.put_in" = true) (k_Book_put_in : PySem.W.keepIn K (.ref f_Book_put_in) = true)
    (a_Book_go_out : PySem.W.findIn K (.ref C_Book) "go_out" = some (some (.ref f_Book_go_out))) (l_Book_go_out : K.lookup f_Book_go_out = some ⟨oc_Book_go_out, od_Book_go_out, .func (PySem.W.fnOf "go_out" "Book.go_out" (defArgs s_Book_go_out) (defBody s_Book_go_out) (defScope s_Book_go_out) .none kV_Book_go_out dc_Book_go_out pm_Book_go_out an_Book_go_out cd_Book_go_out ct_Book_go_out), sl_Book_go_out⟩) (c_Book_go_out : PySem.W.codeIn K cd_Book_go_out "Book.go_out" = true) (k_Book_go_out : PySem.W.keepIn K (.ref f_Book_go_out) = true)
    (a_Book_raised : PySem.W.findIn K (.ref C_Book) "raised" = some (some (.ref f_Book_raised))) (l_Book_raised : K.lookup f_Book_raised = some ⟨oc_Book_raised, od_Book_raised, .func (PySem.W.fnOf "raised" "Book.raised" (defArgs s_Book_raised) (defBody s_Book_raised) (defScope s_Book_raised) .none kV_Book_raised dc_Book_raised pm_Book_raised an_Book_raised cd_Book_raised ct_Book_raised), sl_Book_raised⟩) (c_Book_raised : PySem.W.codeIn K cd_Book_raised "Book.raised" = true) (k_Book_raised : PySem.W.keepIn K (.ref f_Book_raised) = true)
    (a_Book_change_to : PySem.W.findIn K (.ref C_Book) "change_to" = some (some (.ref f_Book_change_to))) (l_Book_change_to : K.lookup f_Book_change_to = some ⟨oc_Book_change_to, od_Book_change_to, .func (PySem.W.fnOf "change_to" "Book.change_to" (defArgs s_Book_change_to) (defBody s_Book_change_to) (defScope s_Book_change_to) .none kV_Book_change_to dc_Book_change_to pm_Book_change_to an_Book_change_to cd_Book_change_to ct_Book_change_to), sl_Book_change_to⟩) (c_Book_change_to : PySem.W.codeIn K cd_Book_change_to "Book.change_to" = true) (k_Book_change_to : PySem.W.keepIn K (.ref f_Book_change_to) = true)
    (a_Book_place_of : PySem.W.findIn K (.ref C_Book) "place_of" = some (some (.ref f_Book_place_of))) (l_Book_place_of : K.lookup f_Book_place_of = some ⟨oc_Book_place_of, od_Book_place_of, .func (PySem.W.fnOf "place_of" "Book.place_of" (defArgs s_Book_place_of) (defBody s_Book_place_of) (defScope s_Book_place_of) .none kV_Book_place_of dc_Book_place_of pm_Book_place_of an_Book_place_of cd_Book_place_of ct_Book_place_of), sl_Book_place_of⟩) (c_Book_place_of : PySem.W.codeIn K cd_Book_place_of "Book.place_of" = true) (k_Book_place_of : PySem.W.keepIn K (.ref f_Book_place_of) = true)
    (a_Book_numbers : PySem.W.findIn K (.ref C_Book) "numbers" = some (some (.ref f_Book_numbers))) (l_Book_numbers : K.lookup f_Book_numbers = some ⟨oc_Book_numbers, od_Book_numbers, .func (PySem.W.fnOf "numbers" "Book.numbers" (defArgs s_Book_numbers) (defBody s_Book_numbers) (defScope s_Book_numbers) .none kV_Book_numbers dc_Book_numbers pm_Book_numbers an_Book_numbers cd_Book_numbers ct_Book_numbers), sl_Book_numbers⟩) (c_Book_numbers : PySem.W.codeIn K cd_Book_numbers "Book.numbers" = true) (k_Book_numbers : PySem.W.keepIn K (.ref f_Book_numbers) = true)
    (a_Book_votes : PySem.W.findIn K (.ref C_Book) "votes" = some (some (.ref f_Book_votes))) (l_Book_votes : K.lookup f_Book_votes = some ⟨oc_Book_votes, od_Book_votes, .func (PySem.W.fnOf "votes" "Book.votes" (defArgs s_Book_votes) (defBody s_Book_votes) (defScope s_Book_votes) .none kV_Book_votes dc_Book_votes pm_Book_votes an_Book_votes cd_Book_votes ct_Book_votes), sl_Book_votes⟩) (c_Book_votes : PySem.W.codeIn K cd_Book_votes "Book.votes" = true) (k_Book_votes : PySem.W.keepIn K (.ref f_Book_votes) = true)
    (a_Book_left : PySem.W.findIn K (.ref C_Book) "left" = some (some (.ref f_Book_left))) (l_Book_left : K.lookup f_Book_left = some ⟨oc_Book_left, od_Book_left, .func (PySem.W.fnOf "left" "Book.left" (defArgs s_Book_left) (defBody s_Book_left) (defScope s_Book_left) .none kV_Book_left dc_Book_left pm_Book_left an_Book_left cd_Book_left ct_Book_left), sl_Book_left⟩) (c_Book_left : PySem.W.codeIn K cd_Book_left "Book.left" = true) (k_Book_left : PySem.W.keepIn K (.ref f_Book_left) = true)
    (i_Book___init__ : PySem.W.isFn K (.ref f_Book___init__) = true) (i_Book_many : PySem.W.isFn K (.ref f_Book_many) = true) (i_Book_put_in : PySem.W.isFn K (.ref f_Book_put_in) = true) (i_Book_go_out : PySem.W.isFn K (.ref f_Book_go_out) = true) (i_Book_raised : PySem.W.isFn K (.ref f_Book_raised) = true) (i_Book_change_to : PySem.W.isFn K (.ref f_Book_change_to) = true) (i_Book_place_of : PySem.W.isFn K (.ref f_Book_place_of) = true) (i_Book_numbers : PySem.W.isFn K (.ref f_Book_numbers) = true) (i_Book_votes : PySem.W.isFn K (.ref f_Book_votes) = true) (i_Book_left : PySem.W.isFn K (.ref f_Book_left) = true)
    (w_e_MOST_BALLOTS : PySem.W.nsIn K mainGlobals "MOST_BALLOTS" = some (some (.int 99 w_MOST_BALLOTS)))
    (z_int : PySem.W.nsIn K mainGlobals "int" = some none) (z_isinstance : PySem.W.nsIn K mainGlobals "isinstance" = some none) (z_bool : PySem.W.nsIn K mainGlobals "bool" = some none) (z_len : PySem.W.nsIn K mainGlobals "len" = some none) (z_tuple : PySem.W.nsIn K mainGlobals "tuple" = some none) (z_list : PySem.W.nsIn K mainGlobals "list" = some none) (z_range : PySem.W.nsIn K mainGlobals "range" = some none) :
    ∃ fd : FuncData, (∀ (s : Shared) (v : Value), BindsTo s fd ⟨[v], []⟩ [("script", v)]) ∧ ∀ base : Heap, K.In base → base.Ns mainGlobals mg → FnOk l.prog w K mg base CX0 5 fa fd ["script"] (spLaw K m_law) := by
  have e := hfa.symm.trans (PySem.W.mg_of X G a_law)
  cases e
  have T : Txt mg := ⟨PySem.W.mg_none_of X G z_int, PySem.W.mg_none_of X G z_isinstance, PySem.W.mg_none_of X G z_bool, PySem.W.mg_none_of X G z_len, PySem.W.mg_none_of X G z_tuple, PySem.W.mg_none_of X G z_list, PySem.W.mg_none_of X G z_range, ⟨_, PySem.W.mg_of X G w_e_MOST_BALLOTS⟩⟩
  have F_is_thing := fun_mk (st := s_is_thing) l_is_thing c_is_thing k_is_thing
  have b_is_thing := F_is_thing.binds (ps := P_is_thing) fun _ _ _ _ _ _ us hl => match us, hl with | [_, _], _ => rfl
  have F_tells_each_once := fun_mk (st := s_tells_each_once) l_tells_each_once c_tells_each_once k_tells_each_once
  have b_tells_each_once := F_tells_each_once.binds (ps := P_tells_each_once) fun _ _ _ _ _ _ us hl => match us, hl with | [_, _], _ => rfl
  have F_raised_order := fun_mk (st := s_raised_order) l_raised_order c_raised_order k_raised_order
  have b_raised_order := F_raised_order.binds (ps := P_raised_order) fun _ _ _ _ _ _ us hl => match us, hl with | [_, _], _ => rfl
  have F__law_whole := fun_mk (st := s__law_whole) l__law_whole c__law_whole k__law_whole
  have b__law_whole := F__law_whole.binds (ps := P__law_whole) fun _ _ _ _ _ _ us hl => match us, hl with | [_], _ => rfl
  have F__law_order := fun_mk (st := s__law_order) l__law_order c__law_order k__law_order
  have b__law_order := F__law_order.binds (ps := P__law_order) fun _ _ _ _ _ _ us hl => match us, hl with | [_, _], _ => rfl
  have F__law_raised := fun_mk (st := s__law_raised) l__law_raised c__law_raised k__law_raised
  have b__law_raised := F__law_raised.binds (ps := P__law_raised) fun _ _ _ _ _ _ us hl => match us, hl with | [_, _], _ => rfl
  have F__law_after := fun_mk (st := s__law_after) l__law_after c__law_after k__law_after
  have b__law_after := F__law_after.binds (ps := P__law_after) fun _ _ _ _ _ _ us hl => match us, hl with | [_, _, _, _], _ => rfl
  have F__law_votes := fun_mk (st := s__law_votes) l__law_votes c__law_votes k__law_votes
  have b__law_votes := F__law_votes.binds (ps := P__law_votes) fun _ _ _ _ _ _ us hl => match us, hl with | [_, _], _ => rfl
  have F__law_numbers := fun_mk (st := s__law_numbers) l__law_numbers c__law_numbers k__law_numbers
  have b__law_numbers := F__law_numbers.binds (ps := P__law_numbers) fun _ _ _ _ _ _ us hl => match us, hl with | [_, _], _ => rfl
  have F__law_done := fun_mk (st := s__law_done) l__law_done c__law_done k__law_done
  have b__law_done := F__law_done.binds (ps := P__law_done) fun _ _ _ _ _ _ us hl => match us, hl with | [_, _], _ => rfl
  have F__law_stands := fun_mk (st := s__law_stands) l__law_stands c__law_stands k__law_stands
  have b__law_stands := F__law_stands.binds (ps := P__law_stands) fun _ _ _ _ _ _ us hl => match us, hl with | [_, _, _, _], _ => rfl
  have F_law := fun_mk (st := s_law) l_law c_law k_law
  have b_law := F_law.binds (ps := P_law) fun _ _ _ _ _ _ us hl => match us, hl with | [_], _ => rfl
  have F_Book___init__ := fun_mk (st := s_Book___init__) l_Book___init__ c_Book___init__ k_Book___init__
  have b_Book___init__ := F_Book___init__.binds (ps := P_Book___init__) fun _ _ _ _ _ _ us hl => match us, hl with | [_, _], _ => rfl
  have F_Book_many := fun_mk (st := s_Book_many) l_Book_many c_Book_many k_Book_many
  have b_Book_many := F_Book_many.binds (ps := P_Book_many) fun _ _ _ _ _ _ us hl => match us, hl with | [_], _ => rfl
  have F_Book_put_in := fun_mk (st := s_Book_put_in) l_Book_put_in c_Book_put_in k_Book_put_in
  have b_Book_put_in := F_Book_put_in.binds (ps := P_Book_put_in) fun _ _ _ _ _ _ us hl => match us, hl with | [_, _, _], _ => rfl
  have F_Book_go_out := fun_mk (st := s_Book_go_out) l_Book_go_out c_Book_go_out k_Book_go_out
  have b_Book_go_out := F_Book_go_out.binds (ps := P_Book_go_out) fun _ _ _ _ _ _ us hl => match us, hl with | [_, _], _ => rfl
  have F_Book_raised := fun_mk (st := s_Book_raised) l_Book_raised c_Book_raised k_Book_raised
  have b_Book_raised := F_Book_raised.binds (ps := P_Book_raised) fun _ _ _ _ _ _ us hl => match us, hl with | [_, _, _], _ => rfl
  have F_Book_change_to := fun_mk (st := s_Book_change_to) l_Book_change_to c_Book_change_to k_Book_change_to
  have b_Book_change_to := F_Book_change_to.binds (ps := P_Book_change_to) fun _ _ _ _ _ _ us hl => match us, hl with | [_, _], _ => rfl
  have F_Book_place_of := fun_mk (st := s_Book_place_of) l_Book_place_of c_Book_place_of k_Book_place_of
  have b_Book_place_of := F_Book_place_of.binds (ps := P_Book_place_of) fun _ _ _ _ _ _ us hl => match us, hl with | [_, _], _ => rfl
  have F_Book_numbers := fun_mk (st := s_Book_numbers) l_Book_numbers c_Book_numbers k_Book_numbers
  have b_Book_numbers := F_Book_numbers.binds (ps := P_Book_numbers) fun _ _ _ _ _ _ us hl => match us, hl with | [_], _ => rfl
  have F_Book_votes := fun_mk (st := s_Book_votes) l_Book_votes c_Book_votes k_Book_votes
  have b_Book_votes := F_Book_votes.binds (ps := P_Book_votes) fun _ _ _ _ _ _ us hl => match us, hl with | [_], _ => rfl
  have F_Book_left := fun_mk (st := s_Book_left) l_Book_left c_Book_left k_Book_left
  have b_Book_left := F_Book_left.binds (ps := P_Book_left) fun _ _ _ _ _ _ us hl => match us, hl with | [_], _ => rfl
  refine ⟨PySem.W.fnOf "law" "law" (defArgs s_law) (defBody s_law) (defScope s_law) .none kV_law dc_law pm_law an_law cd_law ct_law, fun s v => .of_eq rfl, fun base KB GB => ?_⟩
  have G_is_thing : DefOk l.prog w K mg base 1 "is_thing" (spN K m_is_thing) := ok_is_thing F_is_thing (PySem.W.mg_of X G a_is_thing) b_is_thing T
  have G_tells_each_once : DefOk l.prog w K mg base 2 "tells_each_once" (spN K m_tells_each_once) := ok_tells_each_once F_tells_each_once (PySem.W.mg_of X G a_tells_each_once) b_tells_each_once T G_is_thing
  have G_raised_order : DefOk l.prog w K mg base 1 "raised_order" (spN K m_raised_order) := ok_raised_order F_raised_order (PySem.W.mg_of X G a_raised_order) b_raised_order T
  have G__law_whole : DefOk l.prog w K mg base 1 "_law_whole" (spN K m__law_whole) := ok__law_whole F__law_whole (PySem.W.mg_of X G a__law_whole) b__law_whole T
  have G__law_order : DefOk l.prog w K mg base 1 "_law_order" (spN K m__law_order) := ok__law_order F__law_order (PySem.W.mg_of X G a__law_order) b__law_order T
  have G__law_raised : DefOk l.prog w K mg base 1 "_law_raised" (spN K m__law_raised) := ok__law_raised F__law_raised (PySem.W.mg_of X G a__law_raised) b__law_raised T
  have G__law_after : DefOk l.prog w K mg base 2 "_law_after" (spN K m__law_after) := ok__law_after F__law_after (PySem.W.mg_of X G a__law_after) b__law_after T G__law_order G__law_raised
  have G__law_votes : DefOk l.prog w K mg base 2 "_law_votes" (spN K m__law_votes) := ok__law_votes F__law_votes (PySem.W.mg_of X G a__law_votes) b__law_votes T G__law_whole
  have G__law_numbers : DefOk l.prog w K mg base 2 "_law_numbers" (spN K m__law_numbers) := ok__law_numbers F__law_numbers (PySem.W.mg_of X G a__law_numbers) b__law_numbers T G__law_whole
  have G_Book___init__ : NewOk l.prog w K mg base 1 "Book" := ok_Book___init__ F_Book___init__ x_Book ⟨mk_Book, a_Book___init__, i_Book___init__, kc_Book⟩ (PySem.W.mg_of X G x_Book) ic_Book b_Book___init__ T
  have G_Book_many : MethOk l.prog w K mg base 1 "Book" "many" (spN K m_Book_many) := ok_Book_many F_Book_many x_Book (icls_of ic_Book).1 ⟨a_Book_many, i_Book_many, k_Book_many⟩ b_Book_many T
  have G_Book_change_to : MethOk l.prog w K mg base 1 "Book" "change_to" (spC K) := ok_Book_change_to F_Book_change_to x_Book (icls_of ic_Book).1 ⟨a_Book_change_to, i_Book_change_to, k_Book_change_to⟩ b_Book_change_to T
  have G_Book_put_in : MethOk l.prog w K mg base 3 "Book" "put_in" (spB K m_Book_put_in) := ok_Book_put_in F_Book_put_in x_Book (icls_of ic_Book).1 ⟨a_Book_put_in, i_Book_put_in, k_Book_put_in⟩ b_Book_put_in T G_tells_each_once G_Book_change_to
  have G_Book_numbers : MethOk l.prog w K mg base 1 "Book" "numbers" (spN K m_Book_numbers) := ok_Book_numbers F_Book_numbers x_Book (icls_of ic_Book).1 ⟨a_Book_numbers, i_Book_numbers, k_Book_numbers⟩ b_Book_numbers T
  have G_Book_place_of : MethOk l.prog w K mg base 2 "Book" "place_of" (spN K m_Book_place_of) := ok_Book_place_of F_Book_place_of x_Book (icls_of ic_Book).1 ⟨a_Book_place_of, i_Book_place_of, k_Book_place_of⟩ b_Book_place_of T G_Book_numbers
  have G_Book_go_out : MethOk l.prog w K mg base 3 "Book" "go_out" (spB K m_Book_go_out) := ok_Book_go_out F_Book_go_out x_Book (icls_of ic_Book).1 ⟨a_Book_go_out, i_Book_go_out, k_Book_go_out⟩ b_Book_go_out T G_Book_change_to G_Book_place_of
  have G_Book_raised : MethOk l.prog w K mg base 3 "Book" "raised" (spB K m_Book_raised) := ok_Book_raised F_Book_raised x_Book (icls_of ic_Book).1 ⟨a_Book_raised, i_Book_raised, k_Book_raised⟩ b_Book_raised T G_is_thing G_raised_order G_Book_change_to G_Book_place_of
  have G__law_done : DefOk l.prog w K mg base 4 "_law_done" (spB K m__law_done) := ok__law_done F__law_done (PySem.W.mg_of X G a__law_done) b__law_done T G_Book_put_in G_Book_go_out G_Book_raised
  have G_Book_votes : MethOk l.prog w K mg base 1 "Book" "votes" (spN K m_Book_votes) := ok_Book_votes F_Book_votes x_Book (icls_of ic_Book).1 ⟨a_Book_votes, i_Book_votes, k_Book_votes⟩ b_Book_votes T
  have G_Book_left : MethOk l.prog w K mg base 1 "Book" "left" (spN K m_Book_left) := ok_Book_left F_Book_left x_Book (icls_of ic_Book).1 ⟨a_Book_left, i_Book_left, k_Book_left⟩ b_Book_left T
  have G__law_stands : DefOk l.prog w K mg base 3 "_law_stands" (spN K m__law_stands) := ok__law_stands F__law_stands (PySem.W.mg_of X G a__law_stands) b__law_stands T G__law_whole G__law_votes G__law_numbers G_Book_many G_Book_numbers G_Book_votes G_Book_left
  exact law_of (ok_law F_law T G__law_whole G__law_after G_Book___init__ G_Book_numbers G__law_done G_Book_votes G__law_stands)
theorem walk {l : PySem.W.OpenLaw} {q : Program} {loose : List Str} {XP : (Str → Option Value) → Heap → Prop} {YP : World → Heap → Prop} {d : DefRec} {K : Params → PySem.W.Frag} (hn : l.most = some 63) (hdf : d.params.defaults = [])
    (hlaw : ∀ ns : List Int, ns.length ≤ 63 → m_law [.scr ns] = some (.bl true)) (hY : ∀ (w : World) (h : Heap), YP w h → (K w.params).In h)
    (F : ∀ (w : World) (mg : Str → Option Value) (fa : Addr) (h : Heap), (K w.params).In h → h.Ns mainGlobals mg → mg d.name = some (.ref fa) →
      ∃ fd : FuncData, (∀ (s : Shared) (u : Value), BindsTo s fd ⟨[u], []⟩ [("script", u)]) ∧ ∀ base : Heap, (K w.params).In base → base.Ns mainGlobals mg → FnOk l.prog w (K w.params) mg base CX0 5 fa fd ["script"] (spLaw (K w.params) m_law)) :
    PySem.W.WalkO q loose XP YP l.row.toRowW d [] (fun f vs => PySem.call f vs) :=
  L2.walk_of (n := 63) (k := 5) (x := "script") (CX := fun _ => CX0) (sp := fun w => spLaw (K w.params) m_law) hn (by decide) hdf ⟨rfl, by decide, by decide⟩ hY F (fun _ _ a ns hl hO hS => ⟨a, ns, rfl, only_sqF hO hS, hlaw ns hl, fun _ => rfl⟩) fun _ _ _ _ _ z => z
end Prg

namespace Prg
open PySem L2
local macro_rules | `(tactic| simp! only [$xs,*] $[$loc]?) => `(tactic| simp only [ev_var0, ev_varS, ev_C, ev_d2, ev_d1, ev_test, ev_truth, ev_andT, ev_orT, ev_notT, ev_and, ev_or, ev_if, ev_args0, ev_argsS, ev_call, ev_callL, ev_mkL, ev_mkT, ev_mkFlat, ev_mkImm, ev_is, ev_seq, ev_rng1, ev_rng2, ev_comp, ev_part, ev_nopart, ev_cut, ev_seqO, ev_skip, ev_bk, ev_ct, ev_asgS, ev_asgI, ev_asgN, ev_retI, ev_retN, ev_retS, ev_retO, ev_ifO, ev_forO, ev_frz, ev_st0, ev_st1, ev_m0, ev_m1, ev_asgM, ev_app0N, ev_ins0N, ev_small, ev_comp2, ev_enum, ev_chain, ev_din', ev_dnin, ev_dput, ev_exprN, ev_cat, ev_revL, ev_clr0, ev_ext0N, ev_rng3, ev_isN, ev_notN, ev_mov, ev_revS, ev_chkIf, ev_chkSeq, ev_forC, ev_raise, ev_callX, ev_callV, ev_callM, ev_forO2, ev_disp1, ev_rngN, ev_rep, ev_step, ev_ixX, ev_retX, ev_exprX, ev_asgX, ev_try, ev_asX, ev_ret2, ev_ret3, ev_forI, ev_catS, ev_sortS, ev_cutT, ev_iv1, ev_iv2, ev_ifNX, eo_xnT, eo_xnF, eo_xnE, ev_forX, eo_fxL, eo_fxE, ev_callM2, eo_cM2, ev_ret1, eo_r1, ev_appO, ev_ext0D, ev_st0N, eo_2, eo_and, eo_andt, eo_andf, eo_or, eo_ort, eo_orf, eo_andT, eo_andTt, eo_andTf, eo_orT, eo_orTt, eo_orTf, eo_itet, eo_itef, eo_cons, eo_nx, eo_rt, eo_bk, eo_ct, eo_set, eo_rtO, eo_for, eo_immI, eo_immB, eo_immN, eo_immS, eo_immR, eo_part, eo_cutL, eo_cutR, eo_put, eo_in, eo_ex, eo_revL, eo_clr, eo_mov, eo_ckf, eo_csn, eo_raise, eo_ixXe, eo_for2, eo_val, eo_xrV, eo_xrE, eo_xeV, eo_xeE, eo_xaV, eo_xaE, eo_bex, eo_trN, eo_trR, eo_trE, eo_unN, eo_unR, eo_r2, eo_r3, eo_forI, ea_at0, ea_at1, ea_at2, ea_mkD1, ea_ixLL, ea_add, ea_sub, ea_lt, ea_le, ea_gt, ea_ge, ea_eqI, ea_neI, ea_eqB, ea_neB, ea_neg, ea_not, ea_truB, ea_truI, ea_truL, ea_truN, ea_seqL, ea_seqT, ea_seqR, ea_lenL, ea_lenT, ea_lenR, ea_listL, ea_listT, ea_listR, ea_tupL, ea_tupT, ea_ixL, ea_ixT, ea_ixR, ea_isBB, ea_isBI, ea_isII, ea_isIB, ea_isLL, ea_isLT, ea_isTT, ea_isLN, ea_asB, ea_asI, ea_asL, ea_intI, ea_intB, ea_revT, ea_max, ea_isB, ea_notB, ea_revF, es_own0, es_own1, es_ownS, es_all0, es_allS, es_sh0, es_shS, es_v1, es_v2, es_val1, es_val2, es_val3, es_shO, es_drop0, es_dropS, es_dropSh, es_dropOw, es_dropN, es_ow0, es_owS, es_frz0, es_frzS, eb_bs, eb_bn, eb_ms, eb_mn, eb_s0, eb_sS, eb_mc, eb_mnil, eb_rS, eb_r0, eb_ca, eb_na, $xs,*] $[$loc]?)
local macro_rules | `(tactic| simp_all! only [$xs,*]) => `(tactic| simp only [ev_var0, ev_varS, ev_C, ev_d2, ev_d1, ev_test, ev_truth, ev_andT, ev_orT, ev_notT, ev_and, ev_or, ev_if, ev_args0, ev_argsS, ev_call, ev_callL, ev_mkL, ev_mkT, ev_mkFlat, ev_mkImm, ev_is, ev_seq, ev_rng1, ev_rng2, ev_comp, ev_part, ev_nopart, ev_cut, ev_seqO, ev_skip, ev_bk, ev_ct, ev_asgS, ev_asgI, ev_asgN, ev_retI, ev_retN, ev_retS, ev_retO, ev_ifO, ev_forO, ev_frz, ev_st0, ev_st1, ev_m0, ev_m1, ev_asgM, ev_app0N, ev_ins0N, ev_small, ev_comp2, ev_enum, ev_chain, ev_din', ev_dnin, ev_dput, ev_exprN, ev_cat, ev_revL, ev_clr0, ev_ext0N, ev_rng3, ev_isN, ev_notN, ev_mov, ev_revS, ev_chkIf, ev_chkSeq, ev_forC, ev_raise, ev_callX, ev_callV, ev_callM, ev_forO2, ev_disp1, ev_rngN, ev_rep, ev_step, ev_ixX, ev_retX, ev_exprX, ev_asgX, ev_try, ev_asX, ev_ret2, ev_ret3, ev_forI, ev_catS, ev_sortS, ev_cutT, ev_iv1, ev_iv2, ev_ifNX, eo_xnT, eo_xnF, eo_xnE, ev_forX, eo_fxL, eo_fxE, ev_callM2, eo_cM2, ev_ret1, eo_r1, ev_appO, ev_ext0D, ev_st0N, eo_2, eo_and, eo_andt, eo_andf, eo_or, eo_ort, eo_orf, eo_andT, eo_andTt, eo_andTf, eo_orT, eo_orTt, eo_orTf, eo_itet, eo_itef, eo_cons, eo_nx, eo_rt, eo_bk, eo_ct, eo_set, eo_rtO, eo_for, eo_immI, eo_immB, eo_immN, eo_immS, eo_immR, eo_part, eo_cutL, eo_cutR, eo_put, eo_in, eo_ex, eo_revL, eo_clr, eo_mov, eo_ckf, eo_csn, eo_raise, eo_ixXe, eo_for2, eo_val, eo_xrV, eo_xrE, eo_xeV, eo_xeE, eo_xaV, eo_xaE, eo_bex, eo_trN, eo_trR, eo_trE, eo_unN, eo_unR, eo_r2, eo_r3, eo_forI, ea_at0, ea_at1, ea_at2, ea_mkD1, ea_ixLL, ea_add, ea_sub, ea_lt, ea_le, ea_gt, ea_ge, ea_eqI, ea_neI, ea_eqB, ea_neB, ea_neg, ea_not, ea_truB, ea_truI, ea_truL, ea_truN, ea_seqL, ea_seqT, ea_seqR, ea_lenL, ea_lenT, ea_lenR, ea_listL, ea_listT, ea_listR, ea_tupL, ea_tupT, ea_ixL, ea_ixT, ea_ixR, ea_isBB, ea_isBI, ea_isII, ea_isIB, ea_isLL, ea_isLT, ea_isTT, ea_isLN, ea_asB, ea_asI, ea_asL, ea_intI, ea_intB, ea_revT, ea_max, ea_isB, ea_notB, ea_revF, es_own0, es_own1, es_ownS, es_all0, es_allS, es_sh0, es_shS, es_v1, es_v2, es_val1, es_val2, es_val3, es_shO, es_drop0, es_dropS, es_dropSh, es_dropOw, es_dropN, es_ow0, es_owS, es_frz0, es_frzS, eb_bs, eb_bn, eb_ms, eb_mn, eb_s0, eb_sS, eb_mc, eb_mnil, eb_rS, eb_r0, eb_ca, eb_na, Int.reduceEq, Int.reduceLT, Int.reduceLE, Int.reduceGT, Int.reduceAdd, Int.reduceSub, Int.reduceMul, Int.reduceNeg, decide_true, decide_false, Bool.or_false, Bool.false_or, Bool.or_true, Bool.true_or, Bool.and_true, Bool.true_and, Bool.and_false, Bool.false_and, Bool.not_true, Bool.not_false, $xs,*])
/-- a ballot that stands: its number, its voices, its order -/
abbrev Bt := Int × Int × List Int
def enD (b : Bt) : D := .tup [.int b.1, .int b.2.1, ordD b.2.2]
abbrev bk (a : Addr) (m : Nat) (es : List Bt) (ls : List D) (n : Int) : D := bkD a (m : Int) (es.map enD) ls n
theorem en0 {b : Bt} : ixD (enD b) (.int 0) = some (.int b.1) := (rfl)
theorem en1 {b : Bt} : ixD (enD b) (.int 1) = some (.int b.2.1) := (rfl)
theorem en2 {b : Bt} : ixD (enD b) (.int 2) = some (ordD b.2.2) := (rfl)
theorem imms_ord {o : List Int} : (ordD o).imm = true := imms_int o
theorem imm_en (b : Bt) : (enD b).imm = true := by
  show (true && (true && ((ordD b.2.2).imm && true))) = true
  rw [imms_ord]; rfl
theorem imms_en : ∀ es : List Bt, imms (es.map enD) = true
  | [] => rfl
  | b :: r => by
    show ((enD b).imm && imms (r.map enD)) = true
    rw [imm_en, imms_en r]; rfl
theorem imms_bal : ∀ es : List (Int × List Int), imms (es.map balD) = true
  | [] => rfl
  | b :: r => by
    show ((balD b).imm && imms (r.map balD)) = true
    rw [imms_bal r, show (balD b).imm = true from by show (true && ((ordD b.2).imm && true)) = true; rw [imms_ord]; rfl]; rfl
section
variable {a : Addr} {m : Nat} {es : List Bt} {ls : List D} {n : Int}
def numL (es : List Bt) : List Int := es.map (·.1)
def vtL (es : List Bt) : List (Int × List Int) := es.map fun b => (b.2.1, b.2.2)
theorem numbers_eq (hl : es.length ≤ 1000) : m_Book_numbers [bk a m es ls n] = some (.lst ((numL es).map .int)) := by
  refine run_of rfl ?_
  have hl' : (es.map enD).length ≤ 1000000 := by rw [List.length_map]; omega
  have c : compL (compF dYes (d2 ixD (dVar 1) (dC (.int 0))) [some (bk a m es ls n)]) (es.map enD) = some ((numL es).map .int) := by
    unfold numL
    rw [List.map_map]
    exact comp_ofAll (fun b : Bt => .int b.1) fun b _ => by simp! only [en0]
  have fl := eo_flat (imms_int (numL es))
  simp! only [g_Book_numbers, fl_ent, eo_comp hl', c, fl, hol_some]
theorem votes_eq (hl : es.length ≤ 1000) : m_Book_votes [bk a m es ls n] = some (votD (vtL es)) := by
  refine run_of rfl ?_
  have hl' : (es.map enD).length ≤ 1000000 := by rw [List.length_map]; omega
  have c : compL (compF dYes (mkT (dArgs [(d2 ixD (dVar 1) (dC (.int 1))), (d2 ixD (dVar 1) (dC (.int 2)))])) [some (bk a m es ls n)]) (es.map enD) = some ((vtL es).map balD) := by
    unfold vtL
    rw [List.map_map]
    exact comp_ofAll (fun b : Bt => balD (b.2.1, b.2.2)) fun b _ => by simp! only [en1, en2]; rfl
  have fl := eo_flat (imms_bal (vtL es))
  simp! only [g_Book_votes, fl_ent, eo_comp hl', c, fl, hol_some]
  rfl
theorem left_eq : m_Book_left [bk a m es ls n] = some (.int (ls.length : Int)) := by
  refine run_of rfl ?_
  simp! only [g_Book_left, fl_ear, hol_some]
theorem many_eq : m_Book_many [bk a m es ls n] = some (.int (m : Int)) := by
  refine run_of rfl ?_
  simp! only [g_Book_many, fl_cnt, hol_some]
end
theorem q_num {α : Type} {F : List D → Option α} {a : Addr} {m n : Int} {es ls r : List D} : mthF "Book" "numbers" F (bkD a m es ls n :: r) = F (bkD a m es ls n :: r) := mth_bk (by decide +kernel)
theorem q_vot {α : Type} {F : List D → Option α} {a : Addr} {m n : Int} {es ls r : List D} : mthF "Book" "votes" F (bkD a m es ls n :: r) = F (bkD a m es ls n :: r) := mth_bk (by decide +kernel)
theorem q_lft {α : Type} {F : List D → Option α} {a : Addr} {m n : Int} {es ls r : List D} : mthF "Book" "left" F (bkD a m es ls n :: r) = F (bkD a m es ls n :: r) := mth_bk (by decide +kernel)
theorem q_mny {α : Type} {F : List D → Option α} {a : Addr} {m n : Int} {es ls r : List D} : mthF "Book" "many" F (bkD a m es ls n :: r) = F (bkD a m es ls n :: r) := mth_bk (by decide +kernel)
theorem q_plc {α : Type} {F : List D → Option α} {a : Addr} {m n : Int} {es ls r : List D} : mthF "Book" "place_of" F (bkD a m es ls n :: r) = F (bkD a m es ls n :: r) := mth_bk (by decide +kernel)
theorem q_put {α : Type} {F : List D → Option α} {a : Addr} {m n : Int} {es ls r : List D} : mthF "Book" "put_in" F (bkD a m es ls n :: r) = F (bkD a m es ls n :: r) := mth_bk (by decide +kernel)
theorem q_out {α : Type} {F : List D → Option α} {a : Addr} {m n : Int} {es ls r : List D} : mthF "Book" "go_out" F (bkD a m es ls n :: r) = F (bkD a m es ls n :: r) := mth_bk (by decide +kernel)
theorem q_rsd {α : Type} {F : List D → Option α} {a : Addr} {m n : Int} {es ls r : List D} : mthF "Book" "raised" F (bkD a m es ls n :: r) = F (bkD a m es ls n :: r) := mth_bk (by decide +kernel)
/-! where a number stands -/
theorem fidx {pre post : List Bt} {b : Bt} (h : b.1 ∉ numL pre) : (numL (pre ++ b :: post)).findIdx? (fun z => z == b.1) = some pre.length := by
  induction pre with
  | nil =>
    show List.findIdx? _ (b.1 :: numL post) = _
    rw [List.findIdx?_cons, beq_self_eq_true]
    rfl
  | cons c r ih =>
    have h1 : c.1 ≠ b.1 := fun z => h (by rw [← z]; exact List.mem_cons_self)
    have h2 : b.1 ∉ numL r := fun z => h (List.mem_cons_of_mem _ z)
    have e : (c.1 == b.1) = false := beq_eq_false_iff_ne.mpr h1
    show List.findIdx? _ (c.1 :: numL (r ++ b :: post)) = _
    rw [List.findIdx?_cons, e, ih h2]
    simp
section
variable {a : Addr} {m : Nat} {ls : List D} {n : Int} {pre post : List Bt} {b : Bt}
theorem place_eq (hl : (pre ++ b :: post).length ≤ 1000) (h : b.1 ∉ numL pre) : m_Book_place_of [bk a m (pre ++ b :: post) ls n, .int b.1] = some (.int (pre.length : Int)) := by
  refine run_of rfl ?_
  have nu := numbers_eq (a := a) (m := m) (ls := ls) (n := n) hl
  have mm : (numL (pre ++ b :: post)).contains b.1 = true := by
    rw [List.contains_iff_mem]
    unfold numL
    rw [List.map_append, List.map_cons]
    simp
  have ni : ninD (.int b.1) (.lst ((numL (pre ++ b :: post)).map .int)) = some (.bl false) := by
    rw [show (.lst ((numL (pre ++ b :: post)).map .int) : D) = inD' (numL (pre ++ b :: post)) from rfl, nin_in, mm]
    rfl
  have li : lixF (.lst ((numL (pre ++ b :: post)).map .int)) (.int b.1) = some (.int (pre.length : Int)) := by
    show (ints' ((numL (pre ++ b :: post)).map D.int)).bind _ = _
    rw [ints_map, Option.bind_some, fidx h]
    rfl
  obtain ⟨W, hW⟩ : ∃ W, W = numL (pre ++ b :: post) := ⟨_, rfl⟩
  rw [← hW] at nu ni li
  obtain ⟨bb, hb⟩ : ∃ bb, bb = bk a m (pre ++ b :: post) ls n := ⟨_, rfl⟩
  have qn : mthF "Book" "numbers" m_Book_numbers [bk a m (pre ++ b :: post) ls n] = some (.lst (W.map .int)) := by rw [q_num, nu]
  rw [← hb] at qn ⊢
  simp_all! only [g_Book_place_of, qn, ni, li, hol_some]
end

theorem thing_eq (x : Int) (m : Nat) : m_is_thing [.int x, .int (m : Int)] = some (.bl (decide (0 ≤ x) && decide (x < (m : Int)))) := by
  refine run_of rfl ?_
  have c : chO leI ltI (some (.int 0)) (some (.int x)) (some (.int (m : Int))) = some (.bl (decide (0 ≤ x) && decide (x < (m : Int)))) := eo_chain ea_le ea_lt
  simp_all! only [g_is_thing, c, hol_some]
theorem tells_eq {m : Nat} (hm : m ≤ 1000) {o : List Int} (g : o.Perm (rngI m)) : m_tells_each_once [ordD o, .int (m : Int)] = some (.bl true) := by
  refine run_of rfl ?_
  have len : o.length = m := by have := g.length_eq; simpa [rngI] using this
  have hl : decide ((o.length : Int) = (m : Int)) = true := decide_eq_true (by rw [len])
  have t0 : D.dct [] [] = toldD [] := rfl
  simp_all! only [g_tells_each_once, len_ord, hl, t0, seq_ord]
  refine hol_bindO (I := fun s => ∃ p o3, s = [some (.sh (ordD o)), some (.sh (.int (m : Int))), some (.ow (toldD p)), o3]) ?_ ?_
  · refine for_map (fun pre s => ∃ o3, s = [some (.sh (ordD o)), some (.sh (.int (m : Int))), some (.ow (toldD pre)), o3]) ⟨none, rfl⟩ ?_ fun s ⟨o3, z⟩ => ⟨s, rfl, o, o3, z⟩
    rintro pre x post e s ⟨o3, rfl⟩
    have hx : x ∈ o := by rw [e]; simp
    have hh := rngI_mem (g.mem_iff.mp hx)
    have it := thing_eq x m
    rw [decide_eq_true hh.1, decide_eq_true hh.2] at it
    have nd : o.Nodup := g.nodup_iff.mpr rngI_nodup
    rw [e, List.nodup_append] at nd
    have hnp : x ∉ pre := fun z => nd.2.2 x z x List.mem_cons_self rfl
    have hpl : pre.length ≤ 1000000 := by
      rw [e, List.length_append] at len
      omega
    simp_all! only [it, told_in hnp, told_put hnp hpl, hol_some]
    exact ⟨_, rfl⟩
  · rintro s ⟨p, o3, rfl⟩
    simp! only [hol_some]
/-- the thing goes one place up -/
def upO (o : List Int) (t : Int) : List Int := o.take (plc o t - 1) ++ (t :: o[plc o t - 1]?.toList) ++ o.drop (plc o t + 1)
theorem ix_ordN {o : List Int} {k : Nat} (h : k < o.length) : ixD (ordD o) (.int (k : Int)) = some (.int o[k]) := by
  show atI (o.map D.int) (k : Int) = _
  exact atI_nat (by rw [List.getElem?_eq_getElem (by simpa using h), List.getElem_map])
theorem catT_ord {x y : List Int} (h : x.length + y.length ≤ 1000000) : catT (ordD x) (ordD y) = some (ordD (x ++ y)) := by
  unfold ordD
  rw [List.map_append]
  exact if_pos (small_line (by simpa using h))
theorem raised_order_eq {o : List Int} {t : Int} (hl : o.length ≤ 1000) (ht : t ∈ o) (hp : plc o t ≠ 0) : m_raised_order [ordD o, .int t] = some (ordD (upO o t)) := by
  refine run_of rfl ?_
  have ti := tix_ord ht
  have lt := plc_lt ht
  obtain ⟨p, hpp⟩ : ∃ p, plc o t = p + 1 := ⟨plc o t - 1, by omega⟩
  have up : upO o t = o.take p ++ [t, o[p]'(by omega)] ++ o.drop (p + 2) := by
    unfold upO
    rw [hpp, Nat.add_sub_cancel, List.getElem?_eq_getElem (by omega)]
    rfl
  rw [hpp] at ti lt
  have d0 : eqD (.int ((p + 1 : Nat) : Int)) (.int 0) = some (.bl false) := by rw [ea_eqI, decide_eq_false (by omega)]
  have s1 : subI (.int ((p + 1 : Nat) : Int)) (.int 1) = some (.int (p : Int)) := by rw [ea_sub]; congr 2; omega
  have a1 : addI (.int ((p + 1 : Nat) : Int)) (.int 1) = some (.int ((p + 2 : Nat) : Int)) := by rw [ea_add]; congr 2
  have c1 : cutTO (some (ordD o)) (some none) (some (some (p : Int))) = some (ordD (o.take p)) := by
    show some (D.tup (cutL (o.map D.int) none (some (p : Int)))) = _
    rw [cutL_take (by rw [List.length_map]; omega), ← List.map_take]
    rfl
  have c2 : cutTO (some (ordD o)) (some (some ((p + 2 : Nat) : Int))) (some none) = some (ordD (o.drop (p + 2))) := by
    show some (D.tup (cutL (o.map D.int) (some ((p + 2 : Nat) : Int)) none)) = _
    rw [cutL_drop, ← List.map_drop]
    rfl
  have i1 := ix_ordN (o := o) (k := p) (by omega)
  have t2 : D.tup [.int t, .int (o[p]'(by omega))] = ordD [t, o[p]'(by omega)] := rfl
  have k1 := catT_ord (x := o.take p) (y := [t, o[p]'(by omega)]) (by simp; omega)
  have k2 := catT_ord (x := o.take p ++ [t, o[p]'(by omega)]) (y := o.drop (p + 2)) (by simp; omega)
  have im := eo_imm (d := ordD (o.take p ++ [t, o[p]'(by omega)] ++ o.drop (p + 2))) imms_ord
  rw [up]
  simp_all! only [g_raised_order, ti, d0, s1, a1, c1, c2, i1, t2, k1, k2, im, hol_some]
section
variable {a : Addr} {m : Nat} {ls : List D} {n : Int} {es pre post : List Bt} {b : Bt}
theorem put_eq (hm : m ≤ 1000) (hl : es.length < 99) (hs : ls.length ≤ 1000) {v : Int} {o : List Int} (hv : 1 ≤ v ∧ v ≤ 10 ^ 30) (ho : o.Perm (rngI m)) :
    m_Book_put_in [bk a m es ls n, .int v, ordD o] = some (bk a m (es ++ [(n, v, o)]) (ls ++ [.lst (es.map enD)]) (n + 1), .int n) := by
  refine runB_rb rfl ?_
  have te := tells_eq hm ho
  obtain ⟨X, hX⟩ : ∃ X : Int, X = 10 ^ 30 := ⟨_, rfl⟩
  have p30 : powI (.int 10) (.int 30) = some (.int X) := by rw [hX]; exact pow_lit 30 (by omega)
  have ch : chO leI leI (some (.int 1)) (some (.int v)) (some (.int X)) = some (.bl true) := by
    rw [eo_chain ea_le ea_le, decide_eq_true hv.1, decide_eq_true (by rw [hX]; exact hv.2)]
    rfl
  have ge : geI (.int ((es.map enD).length : Int)) (.int 99) = some (.bl false) := by rw [ea_ge, List.length_map, decide_eq_false (by omega)]
  have tu : tupF [ordD o] = some (ordD o) := rfl
  have st : ∀ (r : SS) (f : DE), f (allV (some (.ow (bk a m es ls n)) :: r)) = some (.int (n + 1)) → setFO 0 "next_number" f (some (.ow (bk a m es ls n)) :: r) = some (.nx (dropB 0 (some (.ow (bk a m es ls (n + 1)))) :: dropBs 0 r)) := fun r f h => set_nxt rfl h
  have cat : catO (some (.lst (es.map enD))) (some (.lst [.tup [.int n, .int v, ordD o]])) = some ((es ++ [(n, v, o)]).map enD) := by
    rw [eo_cat (by simp; omega), List.map_append]
    rfl
  have fl := eo_flat (imms_en (es ++ [(n, v, o)]))
  have cg : ∀ (r : SS) (f : DE), f (allV (some (.ow (bk a m es ls (n + 1))) :: r)) = some (.lst ((es ++ [(n, v, o)]).map enD)) → chgO 0 "Book" f (some (.ow (bk a m es ls (n + 1))) :: r) = some (.nx (dropB 0 (some (.ow (bk a m (es ++ [(n, v, o)]) (ls ++ [.lst (es.map enD)]) (n + 1)))) :: dropBs 0 r)) := fun r f h => chg_eq rfl h hs
  simp_all! only [g_Book_put_in, fl_cnt, fl_ent, fl_nxt, te, p30, ch, ge]
  rw [st]
  · simp! only []
    rw [cg]
    · simp! only [ev_retK, eo_rkI, eo_rb, hol_some]
      exact ⟨_, rfl⟩
    · simp! only [fl_ent, tu, cat, fl]
  · simp! only []
theorem cut_pre : cutL ((pre ++ b :: post).map enD) none (some (pre.length : Int)) = pre.map enD := by
  rw [cutL_take (by simp), ← List.map_take, List.take_left']
  rfl
theorem cut_post : cutL ((pre ++ b :: post).map enD) (some (pre.length + 1 : Int)) none = post.map enD := by
  have e : ((pre.length : Int) + 1) = ((pre.length + 1 : Nat) : Int) := by omega
  rw [e, cutL_drop, ← List.map_drop]
  congr 1
  rw [List.drop_append]
  simp
theorem out_eq (hl : (pre ++ b :: post).length ≤ 1000) (hs : ls.length ≤ 1000) (h : b.1 ∉ numL pre) : m_Book_go_out [bk a m (pre ++ b :: post) ls n, .int b.1] = some (bk a m (pre ++ post) (ls ++ [.lst ((pre ++ b :: post).map enD)]) n, .non) := by
  refine runB_nx rfl ?_
  have pl : mthF "Book" "place_of" m_Book_place_of [bk a m (pre ++ b :: post) ls n, .int b.1] = some (.int (pre.length : Int)) := by rw [q_plc, place_eq hl h]
  have k1 := cut_pre (pre := pre) (b := b) (post := post)
  have k2 := cut_post (pre := pre) (b := b) (post := post)
  have cat : catO (some (.lst (pre.map enD))) (some (.lst (post.map enD))) = some ((pre ++ post).map enD) := by
    rw [eo_cat (by simp at hl ⊢; omega), List.map_append]
  have fl := eo_flat (imms_en (pre ++ post))
  obtain ⟨W, hW⟩ : ∃ W, W = pre ++ b :: post := ⟨_, rfl⟩
  rw [← hW] at pl k1 k2 hl ⊢
  have cg : ∀ (r : SS) (f : DE), f (allV (some (.ow (bk a m W ls n)) :: r)) = some (.lst ((pre ++ post).map enD)) → chgO 0 "Book" f (some (.ow (bk a m W ls n)) :: r) = some (.nx (dropB 0 (some (.ow (bk a m (pre ++ post) (ls ++ [.lst (W.map enD)]) n))) :: dropBs 0 r)) := fun r f h => chg_eq rfl h hs
  simp! only [g_Book_go_out, pl]
  rw [cg]
  · simp! only [hol_some]
    exact ⟨_, rfl⟩
  · simp! only [fl_ent, k1, k2, cat, fl]
theorem rsd_eq (hm : m ≤ 1000) (hl : (pre ++ b :: post).length ≤ 1000) (hs : ls.length ≤ 1000) (h : b.1 ∉ numL pre) (ho : b.2.2.Perm (rngI m)) {t : Int} (ht : t ∈ b.2.2) (hp : plc b.2.2 t ≠ 0) :
    m_Book_raised [bk a m (pre ++ b :: post) ls n, .int b.1, .int t] = some (bk a m (pre ++ (b.1, b.2.1, upO b.2.2 t) :: post) (ls ++ [.lst ((pre ++ b :: post).map enD)]) n, .non) := by
  refine runB_nx rfl ?_
  have len : b.2.2.length = m := by have := ho.length_eq; simpa [rngI] using this
  have pl : mthF "Book" "place_of" m_Book_place_of [bk a m (pre ++ b :: post) ls n, .int b.1] = some (.int (pre.length : Int)) := by rw [q_plc, place_eq hl h]
  have hh := rngI_mem (ho.mem_iff.mp ht)
  have it := thing_eq t m
  rw [decide_eq_true hh.1, decide_eq_true hh.2] at it
  have ix : ixD (.lst ((pre ++ b :: post).map enD)) (.int (pre.length : Int)) = some (enD b) := by
    show atI _ _ = _
    exact atI_nat (by simp)
  have ro := raised_order_eq (o := b.2.2) (t := t) (by omega) ht hp
  have k1 := cut_pre (pre := pre) (b := b) (post := post)
  have k2 := cut_post (pre := pre) (b := b) (post := post)
  have im := eo_imm (imm_en (b.1, b.2.1, upO b.2.2 t))
  have imb := eo_imm (imm_en b)
  have en : D.tup [.int b.1, .int b.2.1, ordD (upO b.2.2 t)] = enD (b.1, b.2.1, upO b.2.2 t) := rfl
  have cat1 : catO (some (.lst (pre.map enD))) (some (.lst [enD (b.1, b.2.1, upO b.2.2 t)])) = some ((pre ++ [(b.1, b.2.1, upO b.2.2 t)]).map enD) := by
    rw [eo_cat (by simp at hl ⊢; omega), List.map_append]
    rfl
  have cat2 : catO (some (.lst ((pre ++ [(b.1, b.2.1, upO b.2.2 t)]).map enD))) (some (.lst (post.map enD))) = some ((pre ++ (b.1, b.2.1, upO b.2.2 t) :: post).map enD) := by
    rw [eo_cat (by simp at hl ⊢; omega), ← List.map_append]
    simp
  have fl := eo_flat (imms_en (pre ++ (b.1, b.2.1, upO b.2.2 t) :: post))
  obtain ⟨W, hW⟩ : ∃ W, W = pre ++ b :: post := ⟨_, rfl⟩
  rw [← hW] at pl k1 k2 hl ix ⊢
  obtain ⟨W2, hW2⟩ : ∃ W2, W2 = pre ++ (b.1, b.2.1, upO b.2.2 t) :: post := ⟨_, rfl⟩
  rw [← hW2] at cat2 fl ⊢
  obtain ⟨W3, hW3⟩ : ∃ W3, W3 = pre ++ [(b.1, b.2.1, upO b.2.2 t)] := ⟨_, rfl⟩
  rw [← hW3] at cat1 cat2
  have cg : ∀ (r : SS) (f : DE), f (allV (some (.ow (bk a m W ls n)) :: r)) = some (.lst (W2.map enD)) → chgO 0 "Book" f (some (.ow (bk a m W ls n)) :: r) = some (.nx (dropB 0 (some (.ow (bk a m W2 (ls ++ [.lst (W.map enD)]) n))) :: dropBs 0 r)) := fun r f h => chg_eq rfl h hs
  simp_all! only [g_Book_raised, pl, fl_cnt, fl_ent, it, ix, imb, en1, en2, ro, en, im]
  rw [cg]
  · simp! only [hol_some]
    exact ⟨_, rfl⟩
  · simp! only [fl_ent, k1, k2, cat1, cat2, fl]
end

theorem whole_eq {x : Int} : m__law_whole [.int x] = some (.bl true) := by
  refine run_of rfl ?_
  simp_all! only [g__law_whole, hol_some]
theorem pop_perm {x y : List Int} {p : Nat} (h : p < y.length) : ((x ++ [y[p]]) ++ y.eraseIdx p).Perm (x ++ y) := by
  rw [List.append_assoc]
  refine List.Perm.append_left x ?_
  show (y[p] :: y.eraseIdx p).Perm y
  rw [List.eraseIdx_eq_take_drop_succ]
  have e : y = y.take p ++ y[p] :: y.drop (p + 1) := by
    rw [← List.drop_eq_getElem_cons h, List.take_append_drop]
  exact (List.perm_middle.symm).trans (by rw [← e])
theorem order_eq {m : Nat} (hm : m ≤ 60) (c : Int) : hol (m__law_order [.int c, .int (m : Int)]) fun d => ∃ o, d = ordD o ∧ o.Perm (rngI m) := by
  refine hol_run rfl ?_
  have hr : rng1 (some (.int (m : Int))) = some (rngL 0 m) := by rw [eo_rng1 (by omega)]; rfl
  have sm : smallO (some (rngL 0 m)) = some (rngL 0 m) := by first | exact eo_small (by rw [rng_nat]; simp; omega) | rfl
  have rl : rngL 0 m = (rngI m).map D.int := by
    have := rng_ord (m := m)
    unfold ordD at this
    exact D.tup.inj this
  have fl := eo_flat (imms_int (rngI m))
  rw [rl] at hr sm
  simp! only [g__law_order, hr, sm, fl, flat_nil]
  refine hol_bindO (I := fun s => ∃ (o : List Int) (c : Int), o.Perm (rngI m) ∧ s = [some (.sh (.int c)), some (.sh (.int (m : Int))), some (.ow (.lst [])), some (.ow (.lst (o.map .int)))]) ?_ ?_
  · refine while_hol (fun k s => ∃ (x y : List Int) (c : Int), y.length = k ∧ (x ++ y).Perm (rngI m) ∧ s = [some (.sh (.int c)), some (.sh (.int (m : Int))), some (.ow (.lst (y.map .int))), some (.ow (.lst (x.map .int)))]) (n := m) ⟨[], rngI m, c, by simp [rngI], List.Perm.refl _, rfl⟩ ?_ (by omega)
    rintro k s ⟨x, y, c, hk, hp, rfl⟩
    have hxl : x.length + y.length = m := by have := hp.length_eq; simpa [rngI] using this
    have ln : lenF [.lst (y.map D.int)] = some (.int (y.length : Int)) := by rw [ea_lenL, List.length_map]
    cases y with
    | nil =>
      have gt : gtI (.int ((([] : List Int).length : Nat) : Int)) (.int 0) = some (.bl false) := by rw [ea_gt]; rfl
      refine ⟨false, by simp! only [ln]; rfl, fun _ => ⟨_, rfl, x, c, by simpa using hp, rfl⟩, (fun h => nomatch h)⟩
    | cons y0 yr =>
      obtain ⟨y, hy⟩ : ∃ y, y = y0 :: yr := ⟨_, rfl⟩
      have hpos : 0 < y.length := by rw [hy]; simp
      rw [← hy] at hk hp hxl ln ⊢
      have gt : gtI (.int (y.length : Int)) (.int 0) = some (.bl true) := by rw [ea_gt, decide_eq_true (by omega)]
      refine ⟨true, by simp! only [ln, gt], (fun h => nomatch h), fun _ => ⟨y.length - 1, by omega, ?_⟩⟩
      obtain ⟨p, ep, hpl⟩ := mod_nat (x := c) (n := y.length) hpos
      have md : modI (.int c) (.int (y.length : Int)) = some (.int (p : Int)) := by rw [ea_mod (by omega), ep]
      have pk := popK_eq (i := 3) (j := 2) (s := [some (.sh (.int c)), some (.sh (.int (m : Int))), some (.ow (.lst (y.map .int))), some (.ow (.lst (x.map .int)))]) (f := d2 modI (dVar 0) (dCall lenF [(dVar 2)])) (x := x) (y := y) (p := p) rfl rfl (by simp! only [ln, md]) hpl (by omega) (by omega)
      have ln2 : lenF [.lst ((y.eraseIdx p).map D.int)] = some (.int ((y.eraseIdx p).length : Int)) := by rw [ea_lenL, List.length_map]
      have el : (y.eraseIdx p).length = y.length - 1 := List.length_eraseIdx_of_lt hpl
      have dv : ∃ z : Int, divI (.int c) (.int (((y.eraseIdx p).length : Int) + 1)) = some (.int z) := ⟨_, ea_div ⟨by omega, by omega⟩⟩
      obtain ⟨z, dv⟩ := dv
      have pp := (pop_perm (x := x) hpl).trans hp
      obtain ⟨X, hX⟩ : ∃ X, X = x ++ [y[p]] := ⟨_, rfl⟩
      obtain ⟨Y, hY⟩ : ∃ Y, Y = y.eraseIdx p := ⟨_, rfl⟩
      rw [← hX, ← hY] at pk pp
      rw [← hY] at ln2 dv el
      simp! only [pk, ln2, dv, hol_some]
      exact ⟨X, Y, z, el, pp, rfl⟩
  · rintro s ⟨o, c, hp, rfl⟩
    have tu : tupF [.lst (o.map D.int)] = some (ordD o) := rfl
    have im := eo_imm (d := ordD o) imms_ord
    simp! only [tu, im, hol_some]
    exact ⟨_, rfl, o, rfl, hp⟩
theorem up_set {o : List Int} {p : Nat} {t : Int} (h : p + 1 < o.length) : (o.set (p + 1) (o[p]'(by omega))).set p t = o.take p ++ [t, o[p]'(by omega)] ++ o.drop (p + 2) := by
  refine List.ext_getElem (by simp; omega) fun k h1 h2 => ?_
  rw [List.getElem_set]
  by_cases h3 : p = k
  · subst h3
    rw [if_pos rfl, List.getElem_append_left (by simp; omega), List.getElem_append_right (by simp; omega)]
    simp [Nat.min_eq_left (show p ≤ o.length by omega)]
  · rw [if_neg h3, List.getElem_set]
    by_cases h4 : p + 1 = k
    · subst h4
      rw [if_pos rfl, List.getElem_append_left (by simp; omega), List.getElem_append_right (by simp; omega)]
      simp [Nat.min_eq_left (show p ≤ o.length by omega)]
    · rw [if_neg h4]
      by_cases h5 : k < p
      · rw [List.getElem_append_left (by simp; omega), List.getElem_append_left (by simp; omega)]
        simp
      · rw [List.getElem_append_right (by simp; omega)]
        simp [Nat.min_eq_left (show p ≤ o.length by omega)]
        congr 1
        omega
theorem lraised_eq {o : List Int} {t : Int} (hl : o.length ≤ 1000) (ht : t ∈ o) : m__law_raised [ordD o, .int t] = some (if plc o t = 0 then .non else ordD (upO o t)) := by
  refine run_of rfl ?_
  have ti := tix_ord ht
  have lt := plc_lt ht
  by_cases h0 : plc o t = 0
  · rw [h0] at ti
    rw [if_pos h0]
    have d0 : eqD (.int ((0 : Nat) : Int)) (.int 0) = some (.bl true) := by rw [ea_eqI]; rfl
    simp_all! only [g__law_raised, ti, d0, hol_some]
  · rw [if_neg h0]
    obtain ⟨p, hpp⟩ : ∃ p, plc o t = p + 1 := ⟨plc o t - 1, by omega⟩
    have up : upO o t = o.take p ++ [t, o[p]'(by omega)] ++ o.drop (p + 2) := by
      unfold upO
      rw [hpp, Nat.add_sub_cancel, List.getElem?_eq_getElem (by omega)]
      rfl
    rw [hpp] at ti lt
    have d0 : eqD (.int ((p + 1 : Nat) : Int)) (.int 0) = some (.bl false) := by rw [ea_eqI, decide_eq_false (by omega)]
    have s1 : subI (.int ((p + 1 : Nat) : Int)) (.int 1) = some (.int (p : Int)) := by rw [ea_sub]; congr 2; omega
    have lo : listF [ordD o] = some (o.map .int) := rfl
    have fl := eo_flat (imms_int o)
    have ix : ixD (.lst (o.map D.int)) (.int (p : Int)) = some (.int (o[p]'(by omega))) := by
      show atI _ _ = _
      exact atI_nat (by rw [List.getElem?_eq_getElem (by simp; omega), List.getElem_map])
    have sv : ∀ {o : List Int} {k : Nat} {x : Int}, k < o.length → st0V (some (.lst (o.map .int))) (some (.int (k : Int))) (some (.int x)) = some (.lst ((o.set k x).map .int)) := fun {o k x} h => by
      show (ixN (o.map D.int).length (k : Int)).map (fun j => D.lst ((o.map D.int).set j (.int x))) = _
      rw [ixN_of (by simpa using h), Option.map_some, ← List.map_set]
    have s2 := sv (o := o) (k := p + 1) (x := o[p]'(by omega)) lt
    have s3 := sv (o := o.set (p + 1) (o[p]'(by omega))) (k := p) (x := t) (by simp; omega)
    rw [up_set lt, ← up] at s3
    obtain ⟨W, hW⟩ : ∃ W, W = o.set (p + 1) (o[p]'(by omega)) := ⟨_, rfl⟩
    rw [← hW] at s2 s3
    have tu : tupF [.lst ((upO o t).map D.int)] = some (ordD (upO o t)) := rfl
    have im := eo_imm (d := ordD (upO o t)) imms_ord
    simp_all! only [g__law_raised, ti, d0, s1, lo, fl, ix, s2, s3, tu, im, hol_some]

theorem eq_str {a b : Str} {c : Bool} (h1 : okP (.str a) = true) (h2 : okP (.str b) = true) (h : PyData.eqv (.str a) (.str b) = c) : eqD (.str a) (.str b) = some (.bl c) := by
  unfold eqD
  rw [h1, h2]
  show some (D.bl (PyData.eqv (.str a) (.str b))) = _
  rw [h]
theorem k_pp : eqD (.str "put") (.str "put") = some (.bl true) := eq_str (by decide +kernel) (by decide +kernel) (by decide +kernel)
theorem k_op : eqD (.str "out") (.str "put") = some (.bl false) := eq_str (by decide +kernel) (by decide +kernel) (by decide +kernel)
theorem k_rp : eqD (.str "raise") (.str "put") = some (.bl false) := eq_str (by decide +kernel) (by decide +kernel) (by decide +kernel)
theorem k_oo : eqD (.str "out") (.str "out") = some (.bl true) := eq_str (by decide +kernel) (by decide +kernel) (by decide +kernel)
theorem k_ro : eqD (.str "raise") (.str "out") = some (.bl false) := eq_str (by decide +kernel) (by decide +kernel) (by decide +kernel)
def dPut (v : Int) (o : List Int) : D := .tup [.str "put", .int v, ordD o]
def dOut (k : Int) : D := .tup [.str "out", .int k]
def dRse (k t : Int) : D := .tup [.str "raise", .int k, .int t]
/-- what the law tells of a cell: the deed, and what stands behind it -/
inductive Aft (m : Nat) (es : List Bt) (n : Int) : D → D → Prop where
  | put (v : Int) (o : List Int) (hv : 1 ≤ v ∧ v ≤ 10 ^ 30) (ho : o.Perm (rngI m)) : Aft m es n (dPut v o) (.lst ((es ++ [(n, v, o)]).map enD))
  | out (pre post : List Bt) (b : Bt) (e : es = pre ++ b :: post) : Aft m es n (dOut b.1) (.lst ((pre ++ post).map enD))
  | none (pre post : List Bt) (b : Bt) (t : Int) (e : es = pre ++ b :: post) (ht : t ∈ b.2.2) (h0 : plc b.2.2 t = 0) : Aft m es n (dRse b.1 t) .non
  | rse (pre post : List Bt) (b : Bt) (t : Int) (e : es = pre ++ b :: post) (ht : t ∈ b.2.2) (h0 : plc b.2.2 t ≠ 0) : Aft m es n (dRse b.1 t) (.lst ((pre ++ (b.1, b.2.1, upO b.2.2 t) :: post).map enD))
theorem after_eq {m : Nat} (h1 : 0 < m) (hm : m ≤ 60) {es : List Bt} (hl : es.length ≤ 1000) (hg : ∀ b ∈ es, b.2.2.Perm (rngI m)) (n c : Int) :
    hol (m__law_after [.lst (es.map enD), .int n, .int (m : Int), .int c]) fun d => ∃ x y, d = .lst [x, y] ∧ Aft m es n x y := by
  refine hol_run rfl ?_
  have v8 : divI (.int c) (.int 8) = some (.int (c / 8)) := ea_div ⟨by omega, by omega⟩
  obtain ⟨A, hA⟩ : ∃ A : Int, A = 10 ^ 40 := ⟨_, rfl⟩
  have pA : powI (.int 10) (.int 40) = some (.int A) := by rw [hA]; exact pow_lit 40 (by omega)
  have A0 : 0 < A := by rw [hA]; exact Int.pow_pos (by omega)
  obtain ⟨r, hr⟩ : ∃ r, r = c / 8 % A := ⟨_, rfl⟩
  have mr : modI (.int (c / 8)) (.int A) = some (.int r) := by rw [ea_mod A0, hr]
  obtain ⟨w, ew, hw⟩ := mod_nat (x := c) (n := 8) (by omega)
  have mw : modI (.int c) (.int 8) = some (.int (w : Int)) := by rw [ea_mod (by omega)]; exact congrArg _ (congrArg _ ew)
  have ln : lenF [.lst (es.map enD)] = some (.int (es.length : Int)) := by rw [ea_lenL, List.length_map]
  by_cases hc : w < 4 ∨ es.length = 0
  · -- put
    have dc : (decide ((w : Int) < 4) || decide (((es.map enD).length : Int) = 0)) = true := by
      rw [List.length_map, Bool.or_eq_true]
      rcases hc with z | z
      · exact .inl (decide_eq_true (by omega))
      · exact .inr (decide_eq_true (by omega))
    obtain ⟨B, hB⟩ : ∃ B : Int, B = 10 ^ 30 := ⟨_, rfl⟩
    have pB : powI (.int 10) (.int 30) = some (.int B) := by rw [hB]; exact pow_lit 30 (by omega)
    have B0 : 0 < B := by rw [hB]; exact Int.pow_pos (by omega)
    obtain ⟨v, hv⟩ : ∃ v, v = 1 + r % B := ⟨_, rfl⟩
    have mv : modI (.int r) (.int B) = some (.int (r % B)) := ea_mod B0
    have av : addI (.int 1) (.int (r % B)) = some (.int v) := by rw [ea_add, hv]
    have v7 : divI (.int r) (.int 7) = some (.int (r / 7)) := ea_div ⟨by omega, by omega⟩
    obtain ⟨d, ed, o, rfl, ho⟩ := order_eq hm (r / 7)
    have im := eo_imm (imm_en (n, v, o))
    have en : D.tup [.int n, .int v, ordD o] = enD (n, v, o) := rfl
    have i1 : ixD (enD (n, v, o)) (.int 1) = some (.int v) := rfl
    have i2 : ixD (enD (n, v, o)) (.int 2) = some (ordD o) := rfl
    have dp : D.tup [.str "put", .int v, ordD o] = dPut v o := rfl
    have id := eo_imm (d := dPut v o) (by show (true && (true && ((ordD o).imm && true))) = true; rw [imms_ord]; rfl)
    have cat : catO (some (.lst (es.map enD))) (some (.lst [enD (n, v, o)])) = some ((es ++ [(n, v, o)]).map enD) := by
      rw [eo_cat (by simp; omega), List.map_append]
      rfl
    have fl := eo_flat (imms_en (es ++ [(n, v, o)]))
    obtain ⟨W, hW⟩ : ∃ W, W = es ++ [(n, v, o)] := ⟨_, rfl⟩
    rw [← hW] at cat fl
    obtain ⟨q, hq⟩ : ∃ q, q = r % B := ⟨_, rfl⟩
    rw [← hq] at mv av
    simp! only [g__law_after, v8, pA, mr, mw, dc, pB, mv, av, v7, ed, en, im, i1, i2, dp, id, cat, fl, hol_some]
    refine ⟨_, rfl, _, _, rfl, ?_⟩
    rw [hW]
    refine .put v o ⟨?_, ?_⟩ ho
    · have := Int.emod_nonneg r (Int.ne_of_gt B0); omega
    · have := Int.emod_lt_of_pos r B0; rw [← hB]; omega
  · have hlt : 0 < es.length := by omega
    have dc : (decide ((w : Int) < 4) || decide (((es.map enD).length : Int) = 0)) = false := by
      rw [List.length_map, Bool.or_eq_false_iff]
      exact ⟨decide_eq_false (by omega), decide_eq_false (by omega)⟩
    obtain ⟨p, ep, hp⟩ := mod_nat (x := r) (n := es.length) hlt
    have mp : modI (.int r) (.int ((es.map enD).length : Int)) = some (.int (p : Int)) := by rw [List.length_map, ea_mod (by omega), ep]
    obtain ⟨pre, post, b, hes, hpre⟩ : ∃ pre post b, es = pre ++ b :: post ∧ pre.length = p := ⟨es.take p, es.drop (p + 1), es[p], by rw [← List.drop_eq_getElem_cons hp, List.take_append_drop], by simp; omega⟩
    have ix : ixD (.lst (es.map enD)) (.int (p : Int)) = some (enD b) := by
      rw [hes, ← hpre]
      show atI _ _ = _
      exact atI_nat (by simp)
    have k1 := cut_pre (pre := pre) (b := b) (post := post)
    have k2 := cut_post (pre := pre) (b := b) (post := post)
    rw [← hes, hpre] at k1 k2
    have imb := eo_imm (imm_en b)
    have hb : b ∈ es := by rw [hes]; simp
    have bl := hg b hb
    have len : b.2.2.length = m := by have := bl.length_eq; simpa [rngI] using this
    have pp : pre.length + (post.length + 1) ≤ 1000 := by rw [hes] at hl; simpa using hl
    by_cases h4 : w = 4
    · have d4 : decide ((w : Int) = 4) = true := decide_eq_true (by omega)
      have cat : catO (some (.lst (pre.map enD))) (some (.lst (post.map enD))) = some ((pre ++ post).map enD) := by rw [eo_cat (by simp; omega), List.map_append]
      have fl := eo_flat (imms_en (pre ++ post))
      have dp : D.tup [.str "out", .int b.1] = dOut b.1 := rfl
      have id := eo_imm (d := dOut b.1) rfl
      obtain ⟨W, hW⟩ : ∃ W, W = pre ++ post := ⟨_, rfl⟩
      rw [← hW] at cat fl
      simp! only [g__law_after, v8, pA, mr, mw, dc, mp, ix, imb, d4, en0, k1, k2, cat, fl, dp, id, hol_some]
      refine ⟨_, rfl, _, _, rfl, ?_⟩
      rw [hW]
      exact .out pre post b hes
    · have d4 : decide ((w : Int) = 4) = false := decide_eq_false (by omega)
      have v100 : divI (.int r) (.int 100) = some (.int (r / 100)) := ea_div ⟨by omega, by omega⟩
      obtain ⟨t, et, htm⟩ := mod_nat (x := r / 100) (n := m) h1
      have mt : modI (.int (r / 100)) (.int (m : Int)) = some (.int (t : Int)) := by rw [ea_mod (by omega), et]
      have ht : ((t : Nat) : Int) ∈ b.2.2 := bl.mem_iff.mpr (List.mem_map.mpr ⟨t, List.mem_range.mpr htm, rfl⟩)
      have lr := lraised_eq (o := b.2.2) (t := (t : Int)) (by omega) ht
      have dp : D.tup [.str "raise", .int b.1, .int (t : Int)] = dRse b.1 t := rfl
      have id := eo_imm (d := dRse b.1 t) rfl
      by_cases h0 : plc b.2.2 (t : Int) = 0
      · rw [if_pos h0] at lr
        have fl := eo_flat (ds := [dRse b.1 t, .non]) rfl
        have inn : isN D.non = true := rfl
        simp! only [g__law_after, v8, pA, mr, mw, dc, mp, ix, imb, d4, en0, en2, v100, mt, lr, inn, dp, fl, hol_some]
        exact ⟨_, rfl, _, _, rfl, .none pre post b t hes ht h0⟩
      · rw [if_neg h0] at lr
        have inn : isN (ordD (upO b.2.2 (t : Int))) = false := rfl
        have en : D.tup [.int b.1, .int b.2.1, ordD (upO b.2.2 t)] = enD (b.1, b.2.1, upO b.2.2 t) := rfl
        have cat1 : catO (some (.lst (pre.map enD))) (some (.lst [enD (b.1, b.2.1, upO b.2.2 t)])) = some ((pre ++ [(b.1, b.2.1, upO b.2.2 (t : Int))]).map enD) := by
          rw [eo_cat (by simp; omega), List.map_append]
          rfl
        have cat2 : catO (some (.lst ((pre ++ [(b.1, b.2.1, upO b.2.2 (t : Int))]).map enD))) (some (.lst (post.map enD))) = some ((pre ++ (b.1, b.2.1, upO b.2.2 (t : Int)) :: post).map enD) := by
          rw [eo_cat (by simp; omega), ← List.map_append]
          simp
        have fl := eo_flat (imms_en (pre ++ (b.1, b.2.1, upO b.2.2 (t : Int)) :: post))
        obtain ⟨W2, hW2⟩ : ∃ W2, W2 = pre ++ (b.1, b.2.1, upO b.2.2 (t : Int)) :: post := ⟨_, rfl⟩
        rw [← hW2] at cat2 fl
        obtain ⟨W3, hW3⟩ : ∃ W3, W3 = pre ++ [(b.1, b.2.1, upO b.2.2 (t : Int))] := ⟨_, rfl⟩
        rw [← hW3] at cat1 cat2
        obtain ⟨U, hU⟩ : ∃ U, U = upO b.2.2 (t : Int) := ⟨_, rfl⟩
        rw [← hU] at lr inn en cat1
        simp! only [g__law_after, v8, pA, mr, mw, dc, mp, ix, imb, d4, en0, en1, en2, v100, mt, lr, inn, dp, id, k1, k2, en, cat1, cat2, fl, hol_some]
        refine ⟨_, rfl, _, _, rfl, ?_⟩
        rw [hW2]
        exact .rse pre post b t hes ht h0

theorem len_votD {vs : List (Int × List Int)} : lenF [votD vs] = some (.int (vs.length : Int)) := by
  show some (D.int ((vs.map balD).length : Int)) = _
  rw [List.length_map]
theorem vt_get {es : List Bt} {k : Nat} (h : k < es.length) : ixD (votD (vtL es)) (.int (k : Int)) = some (balD ((es[k]'h).2.1, (es[k]'h).2.2)) := by
  show atI ((vtL es).map balD) (k : Int) = _
  refine atI_nat ?_
  unfold vtL
  rw [List.map_map, List.getElem?_map, List.getElem?_eq_getElem h]
  rfl
theorem es_get {es : List Bt} {k : Nat} (h : k < es.length) : ixD (.lst (es.map enD)) (.int (k : Int)) = some (enD (es[k]'h)) := by
  show atI (es.map enD) (k : Int) = _
  exact atI_nat (by rw [List.getElem?_map, List.getElem?_eq_getElem h]; rfl)
theorem ok_bal {b : Int × List Int} : okP (balD b) = true := okP_of (n := 2) (okN_tup fun d hd => by
  rcases List.mem_cons.mp hd with z | z
  · rw [z]; exact okN_up okN_int (by omega)
  · rw [List.mem_singleton.mp z]; exact okN_mapT fun _ _ => okN_int) (by omega)
theorem imm_bal (b : Int × List Int) : (balD b).imm = true := by show (true && ((ordD b.2).imm && true)) = true; rw [imms_ord]; rfl
theorem lvotes_eq {es : List Bt} (hl : es.length ≤ 1000) : m__law_votes [votD (vtL es), .lst (es.map enD)] = some (.bl true) := by
  refine run_of rfl ?_
  have il : isF "list" (votD (vtL es)) = true := rfl
  have vl : (vtL es).length = es.length := by unfold vtL; rw [List.length_map]
  have ln : lenF [.lst (es.map enD)] = some (.int (es.length : Int)) := by rw [ea_lenL, List.length_map]
  have ne : decide ((es.length : Int) = (es.length : Int)) = true := decide_eq_true rfl
  have hr : rng1 (some (.int (es.length : Int))) = some (rngL 0 es.length) := by rw [eo_rng1 (by omega)]; rfl
  have lm : (es.map enD).length = es.length := List.length_map _
  simp_all! only [g__law_votes, il, len_votD, vl, lm, ne, hr]
  refine hol_bindO (I := fun s => ∃ o2 o3 : Option SD, s = [some (.sh (votD (vtL es))), some (.sh (.lst (es.map enD))), o2, o3]) ?_ ?_
  · refine for_rng (fun k s => ∃ o2 o3 : Option SD, s = [some (.sh (votD (vtL es))), some (.sh (.lst (es.map enD))), o2, o3]) ⟨none, none, rfl⟩ ?_ fun s z => ⟨s, rfl, z⟩
    rintro k hk s ⟨o2, o3, rfl⟩
    rw [Int.zero_add]
    have g1 := vt_get hk
    have g2 := es_get hk
    obtain ⟨b, hb⟩ : ∃ b, b = es[k]'hk := ⟨_, rfl⟩
    rw [← hb] at g1 g2
    have im := eo_imm (imm_bal (b.2.1, b.2.2))
    have it : isF "tuple" (balD (b.2.1, b.2.2)) = true := rfl
    have i0 : ixD (balD (b.2.1, b.2.2)) (.int 0) = some (.int b.2.1) := rfl
    have i1 : ixD (balD (b.2.1, b.2.2)) (.int 1) = some (ordD b.2.2) := rfl
    have l2 : lenF [balD (b.2.1, b.2.2)] = some (.int 2) := rfl
    have io : isF "tuple" (ordD b.2.2) = true := rfl
    have tt : D.tup [.int b.2.1, ordD b.2.2] = balD (b.2.1, b.2.2) := rfl
    have ns := ne_self (ok_bal (b := (b.2.1, b.2.2)))
    obtain ⟨V, hV⟩ : ∃ V, V = balD (b.2.1, b.2.2) := ⟨_, rfl⟩
    rw [← hV] at g1 im it i0 i1 l2 tt ns
    simp_all! only [g1, g2, im, it, l2, i0, i1, io, whole_eq, en1, en2, tt, ns, hol_some]
    exact ⟨_, _, rfl⟩
  · rintro s ⟨o2, o3, rfl⟩
    simp! only [hol_some]
theorem lnum_eq {es : List Bt} (hl : es.length ≤ 1000) : m__law_numbers [.lst ((numL es).map .int), .lst (es.map enD)] = some (.bl true) := by
  refine run_of rfl ?_
  have il : isF "list" (.lst ((numL es).map .int)) = true := rfl
  have nl : (numL es).length = es.length := by unfold numL; rw [List.length_map]
  have h1 : ((numL es).map D.int).length ≤ 1000000 := by rw [List.length_map]; omega
  have h2 : (es.map enD).length ≤ 1000000 := by rw [List.length_map]; omega
  have c1 : compL (compF (dNotT (dTruth (dCall m__law_whole [(dVar 2)]))) (dVar 2) [some (.lst ((numL es).map .int)), some (.lst (es.map enD))]) ((numL es).map D.int) = some [] := by
    rw [comp_of (enc := D.int) (fun _ => false) (fun x => .int x) (fun x _ => by simp_all! only [whole_eq]) (fun x _ h => nomatch h)]
    simp
  have c2 : compL (compF dYes (d2 ixD (dVar 2) (dC (.int 0))) [some (.lst ((numL es).map .int)), some (.lst (es.map enD))]) (es.map enD) = some ((numL es).map .int) := by
    unfold numL
    rw [List.map_map]
    exact comp_ofAll (fun b : Bt => .int b.1) fun b _ => by simp! only [en0]
  have es' := eq_self (d := .lst ((numL es).map .int)) (okP_of (okN_ints _) (by omega))
  obtain ⟨W, hW⟩ : ∃ W, W = (numL es).map D.int := ⟨_, rfl⟩
  rw [← hW] at il h1 c1 c2 es' ⊢
  have ll : lenF [.lst []] = some (.int 0) := rfl
  simp_all! only [g__law_numbers, il, eo_comp h1, c1, eo_comp h2, c2, es', ll, hol_some]

section
variable {a : Addr} {m : Nat} {ls : List D} {n : Int} {es : List Bt}
theorem p0 {v : Int} {o : List Int} : ixD (dPut v o) (.int 0) = some (.str "put") := (rfl)
theorem p1 {v : Int} {o : List Int} : ixD (dPut v o) (.int 1) = some (.int v) := (rfl)
theorem p2 {v : Int} {o : List Int} : ixD (dPut v o) (.int 2) = some (ordD o) := (rfl)
theorem u0 {k : Int} : ixD (dOut k) (.int 0) = some (.str "out") := (rfl)
theorem u1 {k : Int} : ixD (dOut k) (.int 1) = some (.int k) := (rfl)
theorem r0 {k t : Int} : ixD (dRse k t) (.int 0) = some (.str "raise") := (rfl)
theorem r1 {k t : Int} : ixD (dRse k t) (.int 1) = some (.int k) := (rfl)
theorem r2 {k t : Int} : ixD (dRse k t) (.int 2) = some (.int t) := (rfl)
theorem retB_eq {F : List D → Option (D × D)} {fl : List DE} {s : SS} {d : D} {i : Nat} {s' : SS} (h : cB i F fl s = some (d, s')) : retB i F fl s = some (.rb d s') := by unfold retB; rw [h]; rfl
theorem asgB_eq {F : List D → Option (D × D)} {fl : List DE} {s : SS} {d : D} {i j : Nat} {s' : SS} (h : cB i F fl s = some (d, s')) : asgB j i F fl s = some (.nx (s'.set j (some (.sh d)))) := by unfold asgB; rw [h]; rfl
theorem done_put (hm : m ≤ 1000) (hl : es.length < 99) (hs : ls.length ≤ 1000) {v : Int} {o : List Int} (hv : 1 ≤ v ∧ v ≤ 10 ^ 30) (ho : o.Perm (rngI m)) :
    m__law_done [bk a m es ls n, dPut v o] = some (bk a m (es ++ [(n, v, o)]) (ls ++ [.lst (es.map enD)]) (n + 1), .int n) := by
  refine runB_rb rfl ?_
  have pe := put_eq (a := a) (n := n) hm hl hs hv ho
  have cb := retB_eq (cB_eq (i := 0) (s := [some (.ow (bk a m es ls n)), some (.sh (dPut v o))]) (fl := [(d2 ixD (dVar 1) (dC (.int 1))), (d2 ixD (dVar 1) (dC (.int 2)))]) (F := mthF "Book" "put_in" m_Book_put_in) (d0 := bk a m es ls n) (args := [.int v, ordD o]) rfl (by simp! only [p1, p2]) (by show (true && ((ordD o).imm && true)) = true; rw [imms_ord]; rfl) (q_put.trans pe))
  simp_all! only [g__law_done, p0, k_pp, cb, eo_rb, hol_some]
  exact ⟨_, rfl⟩
theorem done_out {pre post : List Bt} {b : Bt} (hl : (pre ++ b :: post).length ≤ 1000) (hs : ls.length ≤ 1000) (h : b.1 ∉ numL pre) :
    m__law_done [bk a m (pre ++ b :: post) ls n, dOut b.1] = some (bk a m (pre ++ post) (ls ++ [.lst ((pre ++ b :: post).map enD)]) n, .non) := by
  refine runB_rb rfl ?_
  have pe := out_eq (a := a) (n := n) (m := m) hl hs h
  have cb := retB_eq (cB_eq (i := 0) (s := [some (.ow (bk a m (pre ++ b :: post) ls n)), some (.sh (dOut b.1))]) (fl := [(d2 ixD (dVar 1) (dC (.int 1)))]) (F := mthF "Book" "go_out" m_Book_go_out) (d0 := bk a m (pre ++ b :: post) ls n) (args := [.int b.1]) rfl (by simp! only [u1]) rfl (q_out.trans pe))
  obtain ⟨W, hW⟩ : ∃ W, W = pre ++ b :: post := ⟨_, rfl⟩
  rw [← hW] at cb ⊢
  simp_all! only [g__law_done, u0, k_op, k_oo, cb, eo_rb, hol_some]
  exact ⟨_, rfl⟩
theorem done_rse (hm : m ≤ 1000) {pre post : List Bt} {b : Bt} (hl : (pre ++ b :: post).length ≤ 1000) (hs : ls.length ≤ 1000) (h : b.1 ∉ numL pre) (ho : b.2.2.Perm (rngI m)) {t : Int} (ht : t ∈ b.2.2) (hp : plc b.2.2 t ≠ 0) :
    m__law_done [bk a m (pre ++ b :: post) ls n, dRse b.1 t] = some (bk a m (pre ++ (b.1, b.2.1, upO b.2.2 t) :: post) (ls ++ [.lst ((pre ++ b :: post).map enD)]) n, .non) := by
  refine runB_rb rfl ?_
  have pe := rsd_eq (a := a) (n := n) hm hl hs h ho ht hp
  have cb := retB_eq (cB_eq (i := 0) (s := [some (.ow (bk a m (pre ++ b :: post) ls n)), some (.sh (dRse b.1 t))]) (fl := [(d2 ixD (dVar 1) (dC (.int 1))), (d2 ixD (dVar 1) (dC (.int 2)))]) (F := mthF "Book" "raised" m_Book_raised) (d0 := bk a m (pre ++ b :: post) ls n) (args := [.int b.1, .int t]) rfl (by simp! only [r1, r2]) rfl (q_rsd.trans pe))
  obtain ⟨W, hW⟩ : ∃ W, W = pre ++ b :: post := ⟨_, rfl⟩
  rw [← hW] at cb ⊢
  obtain ⟨W2, hW2⟩ : ∃ W2, W2 = pre ++ (b.1, b.2.1, upO b.2.2 t) :: post := ⟨_, rfl⟩
  rw [← hW2] at cb ⊢
  simp_all! only [g__law_done, r0, k_rp, k_ro, cb, eo_rb, hol_some]
  exact ⟨_, rfl⟩
theorem stands_eq (hl : es.length ≤ 1000) {k : Int} (hk : k = (ls.length : Int)) : m__law_stands [bk a m es ls n, .int (m : Int), .lst (es.map enD), .int k] = some (.bl true) := by
  refine run_of rfl ?_
  subst hk
  have nv := votes_eq (a := a) (m := m) (ls := ls) (n := n) hl
  have nn := numbers_eq (a := a) (m := m) (ls := ls) (n := n) hl
  have nl := left_eq (a := a) (m := m) (ls := ls) (n := n) (es := es)
  have nm := many_eq (a := a) (m := m) (ls := ls) (n := n) (es := es)
  have d1 : decide ((ls.length : Int) = (ls.length : Int)) = true := decide_eq_true rfl
  have d2 : decide ((m : Int) = (m : Int)) = true := decide_eq_true rfl
  simp_all! only [g__law_stands, q_vot, q_num, q_lft, q_mny, nv, nn, nl, nm, lvotes_eq hl, lnum_eq hl, whole_eq, d1, d2, hol_some]
end
/-- between two deeds -/
structure St (m : Nat) (n : Int) (es : List Bt) : Prop where
  good : ∀ b ∈ es, b.2.2.Perm (rngI m)
  less : ∀ b ∈ es, b.1 < n
  nd : (numL es).Nodup
theorem numL_app {x y : List Bt} : numL (x ++ y) = numL x ++ numL y := by unfold numL; rw [List.map_append]
theorem St.put {m : Nat} {n v : Int} {es : List Bt} {o : List Int} (h : St m n es) (ho : o.Perm (rngI m)) : St m (n + 1) (es ++ [(n, v, o)]) := by
  refine ⟨fun b hb => ?_, fun b hb => ?_, ?_⟩
  · rcases List.mem_append.mp hb with z | z
    · exact h.good b z
    · rw [List.mem_singleton.mp z]; exact ho
  · rcases List.mem_append.mp hb with z | z
    · have := h.less b z; omega
    · rw [List.mem_singleton.mp z]; show n < n + 1; omega
  · rw [numL_app]
    refine List.nodup_append.mpr ⟨h.nd, by simp [numL], fun x hx y hy e => ?_⟩
    have ey : y = n := by simpa [numL] using hy
    obtain ⟨b, hb, rfl⟩ := List.mem_map.mp hx
    have := h.less b hb
    have e : b.1 = y := e
    omega
theorem St.not_pre {m : Nat} {n : Int} {pre post : List Bt} {b : Bt} (h : St m n (pre ++ b :: post)) : b.1 ∉ numL pre := fun z => by
  have nd := h.nd
  rw [numL_app] at nd
  exact (List.nodup_append.mp nd).2.2 b.1 z b.1 (by show b.1 ∈ b.1 :: numL post; exact List.mem_cons_self) rfl
theorem St.out {m : Nat} {n : Int} {pre post : List Bt} {b : Bt} (h : St m n (pre ++ b :: post)) : St m n (pre ++ post) := by
  have sub : (pre ++ post).Sublist (pre ++ b :: post) := List.Sublist.append_left (List.sublist_cons_self b post) pre
  exact ⟨fun c hc => h.good c (sub.subset hc), fun c hc => h.less c (sub.subset hc), h.nd.sublist (sub.map _)⟩
theorem up_perm {o : List Int} {t : Int} (ht : t ∈ o) (hp : plc o t ≠ 0) : (upO o t).Perm o := by
  have lt := plc_lt ht
  have gt := plc_get ht
  obtain ⟨p, hpp⟩ : ∃ p, plc o t = p + 1 := ⟨plc o t - 1, by omega⟩
  have up : upO o t = o.take p ++ [t, o[p]'(by omega)] ++ o.drop (p + 2) := by
    unfold upO
    rw [hpp, Nat.add_sub_cancel, List.getElem?_eq_getElem (by omega)]
    rfl
  have e : o = o.take p ++ [o[p]'(by omega), t] ++ o.drop (p + 2) := by
    have h1 : o.drop p = o[p]'(by omega) :: o.drop (p + 1) := List.drop_eq_getElem_cons (by omega)
    have h2 : o.drop (p + 1) = o[p + 1]'(by omega) :: o.drop (p + 2) := List.drop_eq_getElem_cons (by omega)
    have h3 : o[p + 1]'(by omega) = t := by
      have := gt
      simp only [hpp] at this
      exact this
    rw [List.append_assoc]
    show o = o.take p ++ (o[p]'(by omega) :: t :: o.drop (p + 2))
    rw [h3] at h2
    rw [← h2, ← h1, List.take_append_drop]
  rw [up]
  have pm : ([t, o[p]'(by omega)] : List Int).Perm [o[p]'(by omega), t] := List.Perm.swap _ _ _
  exact ((pm.append_left (o.take p)).append_right (o.drop (p + 2))).trans (by rw [← e])
theorem St.rse {m : Nat} {n : Int} {pre post : List Bt} {b : Bt} {t : Int} (h : St m n (pre ++ b :: post)) (ht : t ∈ b.2.2) (hp : plc b.2.2 t ≠ 0) : St m n (pre ++ (b.1, b.2.1, upO b.2.2 t) :: post) := by
  have hb : b ∈ pre ++ b :: post := by simp
  refine ⟨fun c hc => ?_, fun c hc => ?_, ?_⟩
  · rcases List.mem_append.mp hc with z | z
    · exact h.good c (List.mem_append_left _ z)
    · rcases List.mem_cons.mp z with z | z
      · rw [z]; exact (up_perm ht hp).trans (h.good b hb)
      · exact h.good c (List.mem_append_right _ (List.mem_cons_of_mem _ z))
  · rcases List.mem_append.mp hc with z | z
    · exact h.less c (List.mem_append_left _ z)
    · rcases List.mem_cons.mp z with z | z
      · rw [z]; exact h.less b hb
      · exact h.less c (List.mem_append_right _ (List.mem_cons_of_mem _ z))
  · have e : numL (pre ++ (b.1, b.2.1, upO b.2.2 t) :: post) = numL (pre ++ b :: post) := by rw [numL_app, numL_app]; rfl
    rw [e]; exact h.nd

theorem ix0 {x y : D} : ixD (.lst [x, y]) (.int 0) = some x := (rfl)
theorem ix1 {x y : D} : ixD (.lst [x, y]) (.int 1) = some y := (rfl)
def tlB : SS → Option Out := (seqO (ifO (dNotT (dTruth (dCall m__law_stands [(dVar 2), (dVar 1), (dVar 3), (dVar 5)]))) (retI (dC (.bl false))) skipO) (seqO (exApp (dCall (mthF "Book" "votes" m_Book_votes) [(dVar 2)]) [(mkT (dArgs [(dC (.int 1)), (mkT (dArgs []))]))]) (seqO (exApp (dCall (mthF "Book" "numbers" m_Book_numbers) [(dVar 2)]) [(d1 uNeg (dC (.int 1)))]) (ifO (dAndT (dTest (d2 eqD (d2 modI (dVar 7) (dC (.int 5))) (dC (.int 0)))) (dNotT (dTruth (dCall m__law_stands [(dVar 2), (dVar 1), (dVar 3), (dVar 5)])))) (retI (dC (.bl false))) skipO))))
def lpB : SS → Option Out := (seqO (asgN 8 (dCall m__law_after [(dVar 3), (dVar 4), (dVar 1), (dVar 7)])) (seqO (ifO (dNotN (d2 ixD (dVar 8) (dC (.int 1)))) (seqO (asgB 9 2 m__law_done [(d2 ixD (dVar 8) (dC (.int 0)))]) (seqO (ifO (dTest (d2 eqD (d2 ixD (d2 ixD (dVar 8) (dC (.int 0))) (dC (.int 0))) (dC (.str "put")))) (seqO (ifO (dOrT (dNotT (dTruth (dCall m__law_whole [(dVar 9)]))) (dTest (d2 neD (dVar 9) (dVar 4)))) (retI (dC (.bl false))) skipO) (asgI 4 (d2 addI (dVar 4) (dC (.int 1))))) (ifO (dNotN (dVar 9)) (retI (dC (.bl false))) skipO)) (seqO (frzO 8 (asgS 3 (d2 ixD (dVar 8) (dC (.int 1))))) (asgI 5 (d2 addI (dVar 5) (dC (.int 1))))))) skipO) tlB))
theorem loop_eq {ns : List Int} {m : Nat} (h1 : 0 < m) (hm : m ≤ 8) (a : Addr) (cs : List Int) (hc : cs.length ≤ 62) :
    hol (forD 7 lpB (cs.map .int) [some (.sh (.scr ns)), some (.sh (.int (m : Int))), some (.ow (bkD a (m : Int) [] [] 0)), some (.sh (.lst [])), some (.sh (.int 0)), some (.sh (.int 0)), some (.ow (.lst [votD [], .lst []])), none, none, none]) fun o => ∃ s, o = .nx s ∧ ∃ o2 o3 o4 o5 o7 o8 o9 : Option SD, s = [some (.sh (.scr ns)), some (.sh (.int (m : Int))), o2, o3, o4, o5, some (.ow (.lst [votD [], .lst []])), o7, o8, o9] := by
  refine for_map (enc := D.int) (xs := cs) (fun pre s => ∃ (es : List Bt) (ls : List D) (n k : Int) (o7 o8 o9 : Option SD), St m n es ∧ es.length ≤ pre.length ∧ ls.length ≤ pre.length ∧ k = (ls.length : Int) ∧
    s = [some (.sh (.scr ns)), some (.sh (.int (m : Int))), some (.ow (bk a m es ls n)), some (.sh (.lst (es.map enD))), some (.sh (.int n)), some (.sh (.int k)), some (.ow (.lst [votD [], .lst []])), o7, o8, o9]) ⟨[], [], 0, 0, none, none, none, ⟨by simp, by simp, by simp [numL]⟩, by simp, by simp, rfl, rfl⟩ ?_ ?_
  · rintro pre c post e s ⟨es, ls, n, k, o7, o8, o9, hS, he, hl, hk, rfl⟩
    have hpl : pre.length < 62 := by
      have := congrArg List.length e
      rw [List.length_append, List.length_cons] at this
      omega
    obtain ⟨d, ed, x, y, rfl, af⟩ := after_eq (es := es) h1 (by omega) (by omega) hS.good n c
    have tail : ∀ {es' : List Bt} {ls' : List D} {n' k' : Int} {p8 p9 : Option SD}, es'.length ≤ 1000 → k' = (ls'.length : Int) → hol (tlB [some (.sh (.scr ns)), some (.sh (.int (m : Int))), some (.ow (bk a m es' ls' n')), some (.sh (.lst (es'.map enD))), some (.sh (.int n')), some (.sh (.int k')), some (.ow (.lst [votD [], .lst []])), some (.sh (.int c)), p8, p9]) fun o => o = .nx [some (.sh (.scr ns)), some (.sh (.int (m : Int))), some (.ow (bk a m es' ls' n')), some (.sh (.lst (es'.map enD))), some (.sh (.int n')), some (.sh (.int k')), some (.ow (.lst [votD [], .lst []])), some (.sh (.int c)), p8, p9] := fun {es' ls' n' k' p8 p9} hl' hk' => by
      have st := stands_eq (a := a) (m := m) (n := n') hl' hk'
      have nv := votes_eq (a := a) (m := m) (ls := ls') (n := n') hl'
      have nn := numbers_eq (a := a) (m := m) (ls := ls') (n := n') hl'
      have nv' : votD (vtL es') = .lst ((vtL es').map balD) := rfl
      have x1 := fun s : SS => eo_xp (es := (vtL es').map balD) (s := s) (x := .tup [.int 1, .tup []]) (by rw [List.length_map]; unfold vtL; rw [List.length_map]; exact hl')
      have x2 := fun s : SS => eo_xp (es := (numL es').map D.int) (s := s) (x := .int (-1)) (by rw [List.length_map]; unfold numL; rw [List.length_map]; exact hl')
      have m5 : modI (.int c) (.int 5) = some (.int (c % 5)) := ea_mod (by omega)
      rw [nv'] at nv
      cases h5 : decide (c % 5 = 0) with
      | true => simp_all! only [tlB, st, ev_exApp, q_vot, q_num, nv, nn, x1, x2, m5, h5, hol_some]
      | false => simp_all! only [tlB, st, ev_exApp, q_vot, q_num, nv, nn, x1, x2, m5, h5, hol_some]
    have inn : isN D.non = true := rfl
    have inl : ∀ l, isN (D.lst l) = false := fun _ => rfl
    have ini : ∀ l, isN (D.int l) = false := fun _ => rfl
    have c8 : ∀ {z : D} {es' : List Bt} {ls' : List D} {n' : Int}, x.imm = true → m__law_done [bk a m es ls n, x] = some (bk a m es' ls' n', z) → asgB 9 2 m__law_done [(d2 ixD (dVar 8) (dC (.int 0)))] [some (.sh (.scr ns)), some (.sh (.int (m : Int))), some (.ow (bk a m es ls n)), some (.sh (.lst (es.map enD))), some (.sh (.int n)), some (.sh (.int k)), some (.ow (.lst [votD [], .lst []])), some (.sh (.int c)), some (.ow (.lst [x, y])), o9] = some (.nx [some (.sh (.scr ns)), some (.sh (.int (m : Int))), some (.ow (bk a m es' ls' n')), some (.sh (.lst (es.map enD))), some (.sh (.int n)), some (.sh (.int k)), some (.ow (.lst [votD [], .lst []])), some (.sh (.int c)), some (.ow (.lst [x, y])), some (.sh z)]) := fun {z es' ls' n'} hi hd => by
      have cb := asgB_eq (j := 9) (cB_eq (i := 2) (s := [some (.sh (.scr ns)), some (.sh (.int (m : Int))), some (.ow (bk a m es ls n)), some (.sh (.lst (es.map enD))), some (.sh (.int n)), some (.sh (.int k)), some (.ow (.lst [votD [], .lst []])), some (.sh (.int c)), some (.ow (.lst [x, y])), o9]) (fl := [(d2 ixD (dVar 8) (dC (.int 0)))]) (F := m__law_done) (d0 := bk a m es ls n) (args := [x]) rfl (by simp! only [ix0]) (by show (x.imm && true) = true; rw [hi]; rfl) hd)
      rw [cb]
      rcases o9 with _ | ⟨q | q | ⟨r, q⟩⟩ <;> first | rfl | (simp! only [])
    unfold lpB
    cases af with
    | none pre1 post1 b t e1 ht h0 =>
      obtain ⟨o, eo, rfl⟩ := tail (es' := es) (ls' := ls) (n' := n) (k' := k) (p8 := some (.ow (.lst [dRse b.1 t, .non]))) (p9 := o9) (by omega) hk
      simp_all! only [ed, ix1, inn, eo, hol_some]
      exact ⟨es, ls, n, k, _, _, _, hS, by simp; omega, by simp; omega, hk, rfl⟩
    | put v o hv ho =>
      have dn := done_put (a := a) (m := m) (n := n) (es := es) (ls := ls) (by omega) (by omega) (by omega) hv ho
      have c9 := c8 (by show (true && (true && ((ordD o).imm && true))) = true; rw [imms_ord]; rfl) dn
      obtain ⟨W, hW⟩ : ∃ W, W = es ++ [(n, v, o)] := ⟨_, rfl⟩
      obtain ⟨L, hL⟩ : ∃ L, L = ls ++ [D.lst (es.map enD)] := ⟨_, rfl⟩
      have ll : L.length = ls.length + 1 := by rw [hL]; simp
      have wl : W.length = es.length + 1 := by rw [hW]; simp
      rw [← hW, ← hL] at c9
      rw [← hW] at ed
      obtain ⟨o, eo, rfl⟩ := tail (es' := W) (ls' := L) (n' := n + 1) (k' := k + 1) (p8 := some (.sh (.lst [dPut v o, .lst (W.map enD)]))) (p9 := some (.sh (.int n))) (by omega) (by omega)
      have dd : decide (n = n) = true := decide_eq_true rfl
      simp_all! only [ed, ix0, ix1, inl, c9, p0, k_pp, whole_eq, dd, eo, hol_some]
      exact ⟨W, L, n + 1, k + 1, _, _, _, by rw [hW]; exact hS.put ho, by simp; omega, by simp; omega, by omega, rfl⟩
    | out pre1 post1 b e1 =>
      subst e1
      have dn := done_out (a := a) (m := m) (n := n) (ls := ls) (pre := pre1) (post := post1) (b := b) (by omega) (by omega) hS.not_pre
      have c9 := c8 rfl dn
      have hS2 := hS.out
      have lw : (pre1 ++ post1).length ≤ (pre1 ++ b :: post1).length := by simp
      obtain ⟨W, hW⟩ : ∃ W, W = pre1 ++ post1 := ⟨_, rfl⟩
      obtain ⟨L, hL⟩ : ∃ L, L = ls ++ [D.lst ((pre1 ++ b :: post1).map enD)] := ⟨_, rfl⟩
      have ll : L.length = ls.length + 1 := by rw [hL]; simp
      obtain ⟨E, hE⟩ : ∃ E, E = pre1 ++ b :: post1 := ⟨_, rfl⟩
      rw [← hW, ← hL, ← hE] at c9
      rw [← hW, ← hE] at ed
      rw [← hW] at hS2
      rw [← hW, ← hE] at lw
      rw [← hE] at he ⊢
      obtain ⟨o, eo, rfl⟩ := tail (es' := W) (ls' := L) (n' := n) (k' := k + 1) (p8 := some (.sh (.lst [dOut b.1, .lst (W.map enD)]))) (p9 := some (.sh .non)) (by omega) (by omega)
      simp_all! only [ed, ix0, ix1, inl, inn, c9, u0, k_op, eo, hol_some]
      exact ⟨W, L, n, k + 1, _, _, _, hS2, by simp; omega, by simp; omega, by omega, rfl⟩
    | rse pre1 post1 b t e1 ht h0 =>
      subst e1
      have hb : b ∈ pre1 ++ b :: post1 := by simp
      have dn := done_rse (a := a) (m := m) (n := n) (ls := ls) (pre := pre1) (post := post1) (b := b) (by omega) (by omega) (by omega) hS.not_pre (hS.good b hb) ht h0
      have c9 := c8 rfl dn
      have hS2 := hS.rse ht h0
      have lw : (pre1 ++ (b.1, b.2.1, upO b.2.2 t) :: post1).length = (pre1 ++ b :: post1).length := by simp
      obtain ⟨W, hW⟩ : ∃ W, W = pre1 ++ (b.1, b.2.1, upO b.2.2 t) :: post1 := ⟨_, rfl⟩
      obtain ⟨L, hL⟩ : ∃ L, L = ls ++ [D.lst ((pre1 ++ b :: post1).map enD)] := ⟨_, rfl⟩
      have ll : L.length = ls.length + 1 := by rw [hL]; simp
      obtain ⟨E, hE⟩ : ∃ E, E = pre1 ++ b :: post1 := ⟨_, rfl⟩
      rw [← hW, ← hL, ← hE] at c9
      rw [← hW, ← hE] at ed
      rw [← hW] at hS2
      rw [← hW, ← hE] at lw
      rw [← hE] at he ⊢
      obtain ⟨o, eo, rfl⟩ := tail (es' := W) (ls' := L) (n' := n) (k' := k + 1) (p8 := some (.sh (.lst [dRse b.1 t, .lst (W.map enD)]))) (p9 := some (.sh .non)) (by omega) (by omega)
      simp_all! only [ed, ix0, ix1, inl, inn, c9, r0, k_rp, eo, hol_some]
      exact ⟨W, L, n, k + 1, _, _, _, hS2, by simp; omega, by simp; omega, by omega, rfl⟩
  · rintro s ⟨es, ls, n, k, o7, o8, o9, _, _, _, _, rfl⟩
    exact ⟨_, rfl, _, _, _, _, _, _, _, rfl⟩
theorem law_true (ns : List Int) (hns : ns.length ≤ 63) : m_law [.scr ns] = some (.bl true) := by
  refine run_of rfl ?_
  have rest : ∀ {m : Nat}, 0 < m → m ≤ 8 → hol (newO 2 "Book" (dVar 1) (seqO (frzO 8 (asgS 3 (mkL (dArgs [])))) (seqO (asgI 4 (dC (.int 0))) (seqO (asgI 5 (dC (.int 0))) (seqO (asgN 6 (mkL (dArgs [(dCall (mthF "Book" "votes" m_Book_votes) [(dVar 2)]), (dCall (mthF "Book" "numbers" m_Book_numbers) [(dVar 2)])]))) (seqO (forO 7 (dSeq (mkL (dCut (dVar 0) (dPart (dC (.int 1))) (dPart (dC (.int 63)))))) (seqO (asgN 8 (dCall m__law_after [(dVar 3), (dVar 4), (dVar 1), (dVar 7)])) (seqO (ifO (dNotN (d2 ixD (dVar 8) (dC (.int 1)))) (seqO (asgB 9 2 m__law_done [(d2 ixD (dVar 8) (dC (.int 0)))]) (seqO (ifO (dTest (d2 eqD (d2 ixD (d2 ixD (dVar 8) (dC (.int 0))) (dC (.int 0))) (dC (.str "put")))) (seqO (ifO (dOrT (dNotT (dTruth (dCall m__law_whole [(dVar 9)]))) (dTest (d2 neD (dVar 9) (dVar 4)))) (retI (dC (.bl false))) skipO) (asgI 4 (d2 addI (dVar 4) (dC (.int 1))))) (ifO (dNotN (dVar 9)) (retI (dC (.bl false))) skipO)) (seqO (frzO 8 (asgS 3 (d2 ixD (dVar 8) (dC (.int 1))))) (asgI 5 (d2 addI (dVar 5) (dC (.int 1))))))) skipO) (seqO (ifO (dNotT (dTruth (dCall m__law_stands [(dVar 2), (dVar 1), (dVar 3), (dVar 5)]))) (retI (dC (.bl false))) skipO) (seqO (exApp (dCall (mthF "Book" "votes" m_Book_votes) [(dVar 2)]) [(mkT (dArgs [(dC (.int 1)), (mkT (dArgs []))]))]) (seqO (exApp (dCall (mthF "Book" "numbers" m_Book_numbers) [(dVar 2)]) [(d1 uNeg (dC (.int 1)))]) (ifO (dAndT (dTest (d2 eqD (d2 modI (dVar 7) (dC (.int 5))) (dC (.int 0)))) (dNotT (dTruth (dCall m__law_stands [(dVar 2), (dVar 1), (dVar 3), (dVar 5)])))) (retI (dC (.bl false))) skipO))))))) (retI (d2 eqD (dVar 6) (mkL (dArgs [(mkFlat (dArgs [])), (mkFlat (dArgs []))]))))))))) [some (.sh (.scr ns)), some (.sh (.int (m : Int))), none, none, none, none, none, none, none, none]) fun o => o = .rt (.bl true) := fun {m} h1 hm => by
    refine hol_new (m := (m : Int)) (by simp! only []) fun a => ?_
    obtain ⟨cs, ec, hc⟩ : ∃ cs : List Int, cutL (ns.map .int) (some 1) (some 63) = cs.map .int ∧ cs.length ≤ 62 := by
      refine ⟨(ns.drop (HT.sIx ns.length 0 (some 1))).take (HT.sIx ns.length ns.length (some 63) - HT.sIx ns.length 0 (some 1)), ?_, ?_⟩
      · unfold cutL
        rw [List.length_map, List.map_take, List.map_drop]
      · have e1 : HT.sIx ns.length 0 (some 1) = min 1 ns.length := sIx_nat (k := 1)
        rw [e1]
        simp
        omega
    have nv : m_Book_votes [bkD a (m : Int) [] [] 0] = some (votD []) := votes_eq (es := []) (m := m) (by simp)
    have nn : m_Book_numbers [bkD a (m : Int) [] [] 0] = some (.lst []) := numbers_eq (es := []) (m := m) (by simp)
    obtain ⟨o, eo, s, rfl, o2, o3, o4, o5, o7, o8, o9, rfl⟩ := loop_eq (ns := ns) h1 hm a cs hc
    unfold lpB tlB at eo
    have ev : eqD (.lst [votD [], .lst []]) (.lst [.lst [], .lst []]) = some (.bl true) := eq_self (okP_of (n := 2) (okN_2 (okN_lst (fun d hd => nomatch hd)) (okN_lst (fun d hd => nomatch hd))) (by omega))
    have fz : frzS 0 ([none, none] : SS) = [none, none] := rfl
    simp! only [q_vot, q_num, nv, nn, ec, fz, eo, ev, flat_nil, hol_some]
  have e0 : (g_law : SS → Option Out) = seqO (asgI 1 (dC (.int 1))) (seqO (ifO (dTest (d2 gtI (dCall lenF [(dVar 0)]) (dC (.int 0)))) (asgI 1 (d2 addI (dC (.int 1)) (d2 modI (d2 ixD (dVar 0) (dC (.int 0))) (dC (.int 8))))) skipO) (newO 2 "Book" (dVar 1) (seqO (frzO 8 (asgS 3 (mkL (dArgs [])))) (seqO (asgI 4 (dC (.int 0))) (seqO (asgI 5 (dC (.int 0))) (seqO (asgN 6 (mkL (dArgs [(dCall (mthF "Book" "votes" m_Book_votes) [(dVar 2)]), (dCall (mthF "Book" "numbers" m_Book_numbers) [(dVar 2)])]))) (seqO (forO 7 (dSeq (mkL (dCut (dVar 0) (dPart (dC (.int 1))) (dPart (dC (.int 63)))))) (seqO (asgN 8 (dCall m__law_after [(dVar 3), (dVar 4), (dVar 1), (dVar 7)])) (seqO (ifO (dNotN (d2 ixD (dVar 8) (dC (.int 1)))) (seqO (asgB 9 2 m__law_done [(d2 ixD (dVar 8) (dC (.int 0)))]) (seqO (ifO (dTest (d2 eqD (d2 ixD (d2 ixD (dVar 8) (dC (.int 0))) (dC (.int 0))) (dC (.str "put")))) (seqO (ifO (dOrT (dNotT (dTruth (dCall m__law_whole [(dVar 9)]))) (dTest (d2 neD (dVar 9) (dVar 4)))) (retI (dC (.bl false))) skipO) (asgI 4 (d2 addI (dVar 4) (dC (.int 1))))) (ifO (dNotN (dVar 9)) (retI (dC (.bl false))) skipO)) (seqO (frzO 8 (asgS 3 (d2 ixD (dVar 8) (dC (.int 1))))) (asgI 5 (d2 addI (dVar 5) (dC (.int 1))))))) skipO) (seqO (ifO (dNotT (dTruth (dCall m__law_stands [(dVar 2), (dVar 1), (dVar 3), (dVar 5)]))) (retI (dC (.bl false))) skipO) (seqO (exApp (dCall (mthF "Book" "votes" m_Book_votes) [(dVar 2)]) [(mkT (dArgs [(dC (.int 1)), (mkT (dArgs []))]))]) (seqO (exApp (dCall (mthF "Book" "numbers" m_Book_numbers) [(dVar 2)]) [(d1 uNeg (dC (.int 1)))]) (ifO (dAndT (dTest (d2 eqD (d2 modI (dVar 7) (dC (.int 5))) (dC (.int 0)))) (dNotT (dTruth (dCall m__law_stands [(dVar 2), (dVar 1), (dVar 3), (dVar 5)])))) (retI (dC (.bl false))) skipO))))))) (retI (d2 eqD (dVar 6) (mkL (dArgs [(mkFlat (dArgs [])), (mkFlat (dArgs []))]))))))))))) := rfl
  rw [e0]
  obtain ⟨G, hG⟩ : ∃ G, G = newO 2 "Book" (dVar 1) (seqO (frzO 8 (asgS 3 (mkL (dArgs [])))) (seqO (asgI 4 (dC (.int 0))) (seqO (asgI 5 (dC (.int 0))) (seqO (asgN 6 (mkL (dArgs [(dCall (mthF "Book" "votes" m_Book_votes) [(dVar 2)]), (dCall (mthF "Book" "numbers" m_Book_numbers) [(dVar 2)])]))) (seqO (forO 7 (dSeq (mkL (dCut (dVar 0) (dPart (dC (.int 1))) (dPart (dC (.int 63)))))) (seqO (asgN 8 (dCall m__law_after [(dVar 3), (dVar 4), (dVar 1), (dVar 7)])) (seqO (ifO (dNotN (d2 ixD (dVar 8) (dC (.int 1)))) (seqO (asgB 9 2 m__law_done [(d2 ixD (dVar 8) (dC (.int 0)))]) (seqO (ifO (dTest (d2 eqD (d2 ixD (d2 ixD (dVar 8) (dC (.int 0))) (dC (.int 0))) (dC (.str "put")))) (seqO (ifO (dOrT (dNotT (dTruth (dCall m__law_whole [(dVar 9)]))) (dTest (d2 neD (dVar 9) (dVar 4)))) (retI (dC (.bl false))) skipO) (asgI 4 (d2 addI (dVar 4) (dC (.int 1))))) (ifO (dNotN (dVar 9)) (retI (dC (.bl false))) skipO)) (seqO (frzO 8 (asgS 3 (d2 ixD (dVar 8) (dC (.int 1))))) (asgI 5 (d2 addI (dVar 5) (dC (.int 1))))))) skipO) (seqO (ifO (dNotT (dTruth (dCall m__law_stands [(dVar 2), (dVar 1), (dVar 3), (dVar 5)]))) (retI (dC (.bl false))) skipO) (seqO (exApp (dCall (mthF "Book" "votes" m_Book_votes) [(dVar 2)]) [(mkT (dArgs [(dC (.int 1)), (mkT (dArgs []))]))]) (seqO (exApp (dCall (mthF "Book" "numbers" m_Book_numbers) [(dVar 2)]) [(d1 uNeg (dC (.int 1)))]) (ifO (dAndT (dTest (d2 eqD (d2 modI (dVar 7) (dC (.int 5))) (dC (.int 0)))) (dNotT (dTruth (dCall m__law_stands [(dVar 2), (dVar 1), (dVar 3), (dVar 5)])))) (retI (dC (.bl false))) skipO))))))) (retI (d2 eqD (dVar 6) (mkL (dArgs [(mkFlat (dArgs [])), (mkFlat (dArgs []))]))))))))) := ⟨_, rfl⟩
  rw [← hG] at rest ⊢
  cases ns with
  | nil =>
    have ln : lenF [.scr []] = some (.int 0) := rfl
    obtain ⟨o, eo, rfl⟩ := rest (m := 1) (by omega) (by omega)
    have eo : G [some (.sh (.scr [])), some (.sh (.int 1)), none, none, none, none, none, none, none, none] = some (.rt (.bl true)) := eo
    simp_all! only [ln, eo, hol_some]
  | cons c r =>
    obtain ⟨N, hN⟩ : ∃ N, N = c :: r := ⟨_, rfl⟩
    have ln : lenF [.scr N] = some (.int (N.length : Int)) := rfl
    have gt : decide (0 < (N.length : Int)) = true := decide_eq_true (by rw [hN]; simp)
    have ix : ixD (.scr N) (.int 0) = some (.int c) := by
      rw [hN]
      show (atI (c :: r) ((0 : Nat) : Int)).map D.int = _
      rw [atI_nat (xs := c :: r) (j := 0) (v := c) rfl]
      rfl
    obtain ⟨k, ek, hk⟩ := mod_nat (x := c) (n := 8) (by omega)
    have mk : modI (.int c) (.int 8) = some (.int (k : Int)) := by rw [ea_mod (by omega)]; exact congrArg _ (congrArg _ ek)
    rw [← hN] at rest ⊢
    obtain ⟨o, eo, rfl⟩ := rest (m := 1 + k) (by omega) (by omega)
    have ad : addI (.int 1) (.int (k : Int)) = some (.int ((1 + k : Nat) : Int)) := by rw [ea_add]; congr 2
    simp_all! only [ln, gt, ix, mk, ad, eo, hol_some]

end Prg

open PySem PySem.W PyProof.Rows
set_option maxRecDepth 100000 in
set_option maxHeartbeats 0 in
theorem PySem.Challenge.cw_askorder_k81_ballots_holds : PySem.Challenge.rw_askorder_k81_ballots.Holds := by
  w_on; o_law; k_head; (case hw => w_witness2)
  k_fill
  refine Prg.walk (l := PySem.Challenge.rw_askorder_k81_ballots) rfl rfl Prg.law_true (fun w h Y => PySem.W.kIn_of Y) ?F
  case F =>
    intro w mg fa h KX G hmg
    refine' Prg.all_mk KX G hmg ?x_Book ?ic_Book ?mk_Book ?kc_Book ?a_is_thing ?l_is_thing ?c_is_thing ?k_is_thing ?a_tells_each_once ?l_tells_each_once ?c_tells_each_once ?k_tells_each_once ?a_raised_order ?l_raised_order ?c_raised_order ?k_raised_order ?a__law_whole ?l__law_whole ?c__law_whole ?k__law_whole ?a__law_order ?l__law_order ?c__law_order ?k__law_order ?a__law_raised ?l__law_raised ?c__law_raised ?k__law_raised ?a__law_after ?l__law_after ?c__law_after ?k__law_after ?a__law_votes ?l__law_votes ?c__law_votes ?k__law_votes ?a__law_numbers ?l__law_numbers ?c__law_numbers ?k__law_numbers ?a__law_done ?l__law_done ?c__law_done ?k__law_done ?a__law_stands ?l__law_stands ?c__law_stands ?k__law_stands ?a_law ?l_law ?c_law ?k_law ?a_Book___init__ ?l_Book___init__ ?c_Book___init__ ?k_Book___init__ ?a_Book_many ?l_Book_many ?c_Book_many ?k_Book_many ?a_Book_put_in ?l_Book_put_in ?c_Book_put_in ?k_Book_put_in ?a_Book_go_out ?l_Book_go_out ?c_Book_go_out ?k_Book_go_out ?a_Book_raised ?l_Book_raised ?c_Book_raised ?k_Book_raised ?a_Book_change_to ?l_Book_change_to ?c_Book_change_to ?k_Book_change_to ?a_Book_place_of ?l_Book_place_of ?c_Book_place_of ?k_Book_place_of ?a_Book_numbers ?l_Book_numbers ?c_Book_numbers ?k_Book_numbers ?a_Book_votes ?l_Book_votes ?c_Book_votes ?k_Book_votes ?a_Book_left ?l_Book_left ?c_Book_left ?k_Book_left ?i_Book___init__ ?i_Book_many ?i_Book_put_in ?i_Book_go_out ?i_Book_raised ?i_Book_change_to ?i_Book_place_of ?i_Book_numbers ?i_Book_votes ?i_Book_left ?w_e_MOST_BALLOTS ?z_int ?z_isinstance ?z_bool ?z_len ?z_tuple ?z_list ?z_range
    (case x_Book => k_is)
    (case ic_Book => first | kts_exm | k_is | kernel_rfl!)
    (case mk_Book => k_is)
    (case kc_Book => k_is)
    (case a_is_thing => k_is)
    (case l_is_thing => k_is)
    (case c_is_thing => k_is)
    (case k_is_thing => k_is)
    (case a_tells_each_once => k_is)
    (case l_tells_each_once => k_is)
    (case c_tells_each_once => k_is)
    (case k_tells_each_once => k_is)
    (case a_raised_order => k_is)
    (case l_raised_order => k_is)
    (case c_raised_order => k_is)
    (case k_raised_order => k_is)
    (case a__law_whole => k_is)
    (case l__law_whole => k_is)
    (case c__law_whole => k_is)
    (case k__law_whole => k_is)
    (case a__law_order => k_is)
    (case l__law_order => k_is)
    (case c__law_order => k_is)
    (case k__law_order => k_is)
    (case a__law_raised => k_is)
    (case l__law_raised => k_is)
    (case c__law_raised => k_is)
    (case k__law_raised => k_is)
    (case a__law_after => k_is)
    (case l__law_after => k_is)
    (case c__law_after => k_is)
    (case k__law_after => k_is)
    (case a__law_votes => k_is)
    (case l__law_votes => k_is)
    (case c__law_votes => k_is)
    (case k__law_votes => k_is)
    (case a__law_numbers => k_is)
    (case l__law_numbers => k_is)
    (case c__law_numbers => k_is)
    (case k__law_numbers => k_is)
    (case a__law_done => k_is)
    (case l__law_done => k_is)
    (case c__law_done => k_is)
    (case k__law_done => k_is)
    (case a__law_stands => k_is)
    (case l__law_stands => k_is)
    (case c__law_stands => k_is)
    (case k__law_stands => k_is)
    (case a_law => k_is)
    (case l_law => k_is)
    (case c_law => k_is)
    (case k_law => k_is)
    (case a_Book___init__ => k_is)
    (case l_Book___init__ => k_is)
    (case c_Book___init__ => k_is)
    (case k_Book___init__ => k_is)
    (case a_Book_many => k_is)
    (case l_Book_many => k_is)
    (case c_Book_many => k_is)
    (case k_Book_many => k_is)
    (case a_Book_put_in => k_is)
    (case l_Book_put_in => k_is)
    (case c_Book_put_in => k_is)
    (case k_Book_put_in => k_is)
    (case a_Book_go_out => k_is)
    (case l_Book_go_out => k_is)
    (case c_Book_go_out => k_is)
    (case k_Book_go_out => k_is)
    (case a_Book_raised => k_is)
    (case l_Book_raised => k_is)
    (case c_Book_raised => k_is)
    (case k_Book_raised => k_is)
    (case a_Book_change_to => k_is)
    (case l_Book_change_to => k_is)
    (case c_Book_change_to => k_is)
    (case k_Book_change_to => k_is)
    (case a_Book_place_of => k_is)
    (case l_Book_place_of => k_is)
    (case c_Book_place_of => k_is)
    (case k_Book_place_of => k_is)
    (case a_Book_numbers => k_is)
    (case l_Book_numbers => k_is)
    (case c_Book_numbers => k_is)
    (case k_Book_numbers => k_is)
    (case a_Book_votes => k_is)
    (case l_Book_votes => k_is)
    (case c_Book_votes => k_is)
    (case k_Book_votes => k_is)
    (case a_Book_left => k_is)
    (case l_Book_left => k_is)
    (case c_Book_left => k_is)
    (case k_Book_left => k_is)
    (case i_Book___init__ => k_is)
    (case i_Book_many => k_is)
    (case i_Book_put_in => k_is)
    (case i_Book_go_out => k_is)
    (case i_Book_raised => k_is)
    (case i_Book_change_to => k_is)
    (case i_Book_place_of => k_is)
    (case i_Book_numbers => k_is)
    (case i_Book_votes => k_is)
    (case i_Book_left => k_is)
    (case w_e_MOST_BALLOTS => k_is)
    (case z_int => k_is)
    (case z_isinstance => k_is)
    (case z_bool => k_is)
    (case z_len => k_is)
    (case z_tuple => k_is)
    (case z_list => k_is)
    (case z_range => k_is)
