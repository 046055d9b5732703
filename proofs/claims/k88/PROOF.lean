import PyProof.Rows.All
import Wide.All
import OpenK.AllK
import Wide.FinOn
import Lean
import PyProof.EqAt
import PyProof.EqKinds
import PyProof.TupleCall
import PySem.Challenge.RW_askorder_k88_rows_asked
set_option Elab.async false
set_option linter.all false
set_option maxRecDepth 100000
/-! THE HAND LAYER, for ints, bools, texts, own classes, LISTS and tuples (index, slices, in, append, pop ..), calls, loops. Paste it whole ahead of your own text; what your proof does not reach may be deleted. -/
namespace L2
open PySem PySem.Spec PyProof.Rows

/-- a key: an int or a str -/
abbrev Key := Sum Int Str
def keyIs : Key → Value → Bool
  | .inl k, v => Value.isInt k v
  | .inr x, v => Value.isStrOf x v
def keyH (w : World) : Key → Int
  | .inl k => hashInt k
  | .inr x => hashStr w x
theorem keyIs_shape : ∀ {k : Key} {v : Value}, keyIs k v = true → (∃ i t, k = Sum.inl i ∧ v = Value.int i t) ∨ (∃ x t, k = Sum.inr x ∧ v = Value.str x t)
  | .inl i, v, h => by
    obtain ⟨t, e⟩ := Value.isInt_shape (k := i) (v := v) h
    exact .inl ⟨i, t, rfl, e⟩
  | .inr x, v, h => by
    obtain ⟨t, e⟩ := Value.isStrOf_shape (x := x) (v := v) h
    exact .inr ⟨x, t, rfl, e⟩
theorem keyIs_int (i : Int) (t : Tok) : keyIs (.inl i) (.int i t) = true := by simp [keyIs, Value.isInt]
theorem keyIs_str (x : Str) (t : Tok) : keyIs (.inr x) (.str x t) = true := by simp [keyIs, Value.isStrOf]
theorem key_ll (a b : Int) : decide ((Sum.inl a : Key) = Sum.inl b) = (a == b) := by
  by_cases e : a = b
  · subst e; simp
  · have h : ¬ (Sum.inl a : Key) = Sum.inl b := fun q => e (Sum.inl.inj q)
    rw [decide_eq_false h]
    exact (beq_eq_false_iff_ne.mpr e).symm
theorem key_rr (a b : Str) : decide ((Sum.inr a : Key) = Sum.inr b) = decide (a = b) := by
  by_cases e : a = b
  · subst e; simp
  · have h : ¬ (Sum.inr a : Key) = Sum.inr b := fun q => e (Sum.inr.inj q)
    rw [decide_eq_false h, decide_eq_false e]
theorem key_lr (a : Int) (b : Str) : decide ((Sum.inl a : Key) = Sum.inr b) = false := decide_eq_false (fun q => nomatch q)
theorem key_rl (a : Str) (b : Int) : decide ((Sum.inr a : Key) = Sum.inl b) = false := decide_eq_false (fun q => nomatch q)

def mixKind (prog : Program) (w : World) : PySem.KeyKind prog w Key where
  is := keyIs
  hash := keyH w
  inj := fun v a b ha hb => by
    rcases keyIs_shape ha with ⟨i, t, rfl, rfl⟩ | ⟨x, t, rfl, rfl⟩
    · rcases keyIs_shape hb with ⟨j, u, rfl, e⟩ | ⟨y, u, rfl, e⟩
      · injection e with e1 _; rw [e1]
      · exact nomatch e
    · rcases keyIs_shape hb with ⟨j, u, rfl, e⟩ | ⟨y, u, rfl, e⟩
      · exact nomatch e
      · injection e with e1 _; rw [e1]
  byValue := fun k v h => by
    rcases keyIs_shape h with ⟨i, t, rfl, rfl⟩ | ⟨x, t, rfl, rfl⟩ <;> rfl
  pyHash := fun hv h => by
    rcases keyIs_shape hv with ⟨i, t, rfl, rfl⟩ | ⟨x, t, rfl, rfl⟩
    · exact wpAny_pyHash_int h
    · exact wpAny_pyHash_str h
  eqBool := fun hu hv h => by
    rcases keyIs_shape hu with ⟨i, t, rfl, rfl⟩ | ⟨x, t, rfl, rfl⟩
    · rcases keyIs_shape hv with ⟨j, u, rfl, rfl⟩ | ⟨y, u, rfl, rfl⟩
      · rw [key_ll] at h; exact wpAny_eqBool_int h
      · rw [key_lr] at h; exact SeqAt.EqAt.int_str i t y u _ _ _ _ h
    · rcases keyIs_shape hv with ⟨j, u, rfl, rfl⟩ | ⟨y, u, rfl, rfl⟩
      · rw [key_rl] at h; exact SeqAt.EqAt.str_int x t j u _ _ _ _ h
      · rw [key_rr] at h; exact wpAny_eqBool_str h
  «strs» := fun k x t v h => by
    rcases keyIs_shape h with ⟨i, u, rfl, e⟩ | ⟨y, u, rfl, e⟩
    · exact nomatch e
    · injection e with e1 _
      subst e1
      cases v <;> rfl

theorem mixKind_int (prog : Program) (w : World) (i : Int) (t : Tok) : (mixKind prog w).is (.inl i) (.int i t) = true := keyIs_int i t
theorem mixKind_str (prog : Program) (w : World) (x : Str) (t : Tok) : (mixKind prog w).is (.inr x) (.str x t) = true := keyIs_str x t
end L2

namespace L2
open PySem PySem.Spec PyProof.Rows

/-- a value, without the heap -/
inductive V where
  | non | bl (b : Bool) | int (i : Int) | str (x : Str) | byt (b : Array UInt8) | flt (b : UInt64) | ref (a : Addr) | ty (n : String)
  deriving DecidableEq

def RelV : V → Value → Prop
  | .non, u => u = Value.none
  | .bl b, u => u = Value.bool b
  | .int i, u => ∃ t, u = Value.int i t
  | .str x, u => ∃ t, u = Value.str x t
  | .byt b, u => ∃ t, u = Value.bytes b t
  | .flt b, u => ∃ t, u = Value.float b t
  | .ref a, u => u = Value.ref a
  | .ty n, u => u = Value.type n

abbrev Vals : List V → List Value → Prop := Paired RelV
theorem Vals.length {xs : List V} {us : List Value} (r : Vals xs us) : xs.length = us.length := Paired.length r
theorem Vals.get : ∀ {xs : List V} {us : List Value} {i : Nat} {x : V}, Vals xs us → xs[i]? = some x → ∃ u, us[i]? = some u ∧ RelV x u
  | _, _, _, _, .nil, e => by simp at e
  | _, _, 0, _, .cons r _, e => by simp at e; subst e; exact ⟨_, rfl, r⟩
  | _, _, i + 1, x, .cons _ t, e => by
    obtain ⟨u, h1, h2⟩ := Vals.get (i := i) (x := x) t (by simpa using e)
    exact ⟨u, by simpa using h1, h2⟩
theorem Vals.set {x : V} {u : Value} (r : RelV x u) : ∀ {xs : List V} {us : List Value} (i : Nat), Vals xs us → Vals (xs.set i x) (us.set i u)
  | _, _, _, .nil => .nil
  | _, _, 0, .cons _ t => .cons r t
  | _, _, i + 1, .cons q t => .cons q (Vals.set r i t)
theorem Vals.append : ∀ {xs ys : List V} {us ws : List Value}, Vals xs us → Vals ys ws → Vals (xs ++ ys) (us ++ ws)
  | _, _, _, _, .nil, s => s
  | _, _, _, _, .cons r t, s => .cons r (Vals.append t s)
theorem Vals.take : ∀ {xs : List V} {us : List Value} (n : Nat), Vals xs us → Vals (xs.take n) (us.take n)
  | _, _, 0, _ => .nil
  | _, _, _ + 1, .nil => .nil
  | _, _, n + 1, .cons r t => .cons r (Vals.take n t)
theorem Vals.drop : ∀ {xs : List V} {us : List Value} (n : Nat), Vals xs us → Vals (xs.drop n) (us.drop n)
  | _, _, 0, r => r
  | _, _, _ + 1, .nil => .nil
  | _, _, n + 1, .cons _ t => Vals.drop n t
theorem Vals.none_of : ∀ {xs : List V} {us : List Value} {i : Nat}, Vals xs us → xs[i]? = none → us[i]? = none := fun {xs us i} r e => by
  have h1 := r.length
  have h2 : xs.length ≤ i := List.getElem?_eq_none_iff.mp e
  exact List.getElem?_eq_none_iff.mpr (by omega)

def RelO : Option V → Option Value → Prop
  | some v, some u => RelV v u
  | none, none => True
  | _, _ => False
def KV {κ : Type} : List (κ × V) → List (κ × Value) → Prop := Paired fun (p : κ × V) (q : κ × Value) => p.1 = q.1 ∧ RelV p.2 q.2

/-- a key of a dict (00_mix): an int or a text -/
def kV : Key → V
  | .inl i => .int i
  | .inr x => .str x

/-- what stands at a tracked address -/
inductive HO where
  /-- a list -/
  | lst (xs : List V)
  /-- a tuple (never changes) -/
  | tup (xs : List V)
  /-- a dict whose keys are ints and texts; one whose keys are tuples of ints and texts (the empty one is both) -/
  | dK (kvs : List (Key × V)) | dT (kvs : List (List Key × V))
  /-- a set of ints: its members, its size -/
  | set (S : Int → Bool) (n : Nat)
  /-- an instance of the class at C, its dict at dx, its attributes -/
  | ins (C dx : Addr) (fs : List (Str × V))
  /-- the dict of the instance at x -/
  | own (x : Addr)
  /-- the dict of an exception -/
  | xd (fs : List (Str × V))
  /-- a bound method, f of x -/
  | met (f x : Addr)
  /-- a range object lo, lo + 1, .. below hi -/
  | rng (lo hi : Int)
  /-- a thing that is known to the object (the script; a dict while a loop walks it): read, never written while it is so -/
  | frz (o : Obj) (u : HO)
  /-- a code object's table -/
  | tbl (ps : Array Value)
  /-- any other thing, by what is true of its one object (a def of one's own: SetO a S n := HO.ext fun h => ..) -/
  | ext (φ : Heap → Prop)

abbrev Hp := Addr → Option HO
def upd (H : Hp) (a : Addr) (o : HO) : Hp := fun b => if b = a then some o else H b
theorem upd_same {H : Hp} {a : Addr} {o : HO} : upd H a o a = some o := by unfold upd; rw [if_pos rfl]
theorem upd_ne {H : Hp} {a b : Addr} {o : HO} (h : b ≠ a) : upd H a o b = H b := by unfold upd; rw [if_neg h]
theorem ne_of_none {H : Hp} {a b : Addr} {o : HO} (h : H a = some o) (h' : H b = none) : a ≠ b := by
  intro e; subst e; rw [h] at h'; cases h'

section
variable (P : Program) (w : World)
/-- a tuple's object, without a dict of its own -/
def TupN (h : Heap) (a : Addr) (items : Array Value) : Prop := ∃ o, h.get? a = some o ∧ (o.cls = .type "tuple" ∧ o.dict = none) ∧ ∃ n, o.data = .seq items n
theorem TupN.is {h : Heap} {a : Addr} {items : Array Value} (x : TupN h a items) : IsTup h a items := let ⟨o, e, c, n⟩ := x; ⟨o, e, c.1, n⟩
theorem TupN.lt {h : Heap} {a : Addr} {items : Array Value} (x : TupN h a items) : a < h.objs.size := x.is.lt
theorem TupN.new (h : Heap) (items : Array Value) : TupN (h.push { cls := .type "tuple", data := .seq items }) h.objs.size items := ⟨_, Heap.get?_push_size _ rfl, ⟨rfl, rfl⟩, _, rfl⟩

def ObjOk (H : Hp) (h : Heap) (a : Addr) : HO → Prop
  | .lst xs => xs.length ≤ sizeLine ∧ ∃ (its : List Value) (n : Nat), Vals xs its ∧ h.get? a = some { cls := .type "list", data := .seq its.toArray n }
  | .tup xs => xs.length ≤ sizeLine ∧ ∃ its : List Value, Vals xs its ∧ TupN h a its.toArray
  | .dK kvs => kvs.length ≤ sizeLine ∧ (a == sysModules) = false ∧ ∃ vs, KV kvs vs ∧ h.DictOf (mixKind P w) a vs
  | .dT kvs => kvs.length ≤ sizeLine ∧ (a == sysModules) = false ∧ ∃ xs : List (List Key × Addr × Value),
      Paired (fun (p : List Key × V) (q : List Key × Addr × Value) => p.1 = q.1 ∧ H q.2.1 = some (.tup (p.1.map kV)) ∧ RelV p.2 q.2.2) kvs xs ∧
      ∃ o es ep, h.get? a = some o ∧ o.ExactDict ∧ o.data = .dict es ep ∧ es.toList = xs.map (entryOfKey (tupleKind (mixKind P w))) ∧ (xs.map (·.1)).Nodup
  | .set S n => h.SetOf (intKind P w) a S n
  | .ins C dx fs => H dx = some (.own a) ∧ fs.length ≤ 1000 ∧ dx ≠ a ∧ h.get? a = some (PySem.W.instObj C dx) ∧
      ∃ mA, h.Ns1 dx mA ∧ (∀ f, RelO (fs.lookup f) (mA f)) ∧ PySem.Within mA (fs.map (·.1))
  | .own _ => ∃ o, h.get? a = some o
  | .xd fs => ∃ mA, h.Ns1 a mA ∧ ∀ f, RelO (fs.lookup f) (mA f)
  | .rng lo hi => ∃ t u v, h.get? a = some { cls := .type "range", data := .fields #[.int lo t, .int hi u, .int 1 v] }
  | .frz o u => h.get? a = some o ∧ ObjOk H h a u
  | .tbl ps => h.get? a = some { cls := .none, data := .fields ps }
  | .met f x => h.get? a = some (PySem.W.methodObj (.ref f) (.ref x))
  | .ext φ => φ h ∧ (∃ o, h.get? a = some o) ∧ ∀ h1 h2 : Heap, φ h1 → (∀ o, h1.get? a = some o → h2.get? a = some o) → φ h2
/-- the abstract heap is held -/
def HOk (H : Hp) (h : Heap) : Prop := ∀ a o, H a = some o → ObjOk P w H h a o
end

section
variable {P : Program} {w : World} {H H' : Hp} {h h' : Heap} {a : Addr} {o : HO}
theorem ObjOk.lt (x : ObjOk P w H h a o) : a < h.objs.size := by
  cases o with
  | lst xs => obtain ⟨_, _, _, _, e⟩ := x; exact Heap.lt_size e
  | tup xs => obtain ⟨_, _, _, p⟩ := x; exact p.lt
  | dK kvs => obtain ⟨_, _, _, _, o, _, _, e, _⟩ := x; exact Heap.lt_size e
  | dT kvs => obtain ⟨_, _, _, _, o, _, _, e, _⟩ := x; exact Heap.lt_size e
  | set S n => obtain ⟨o, _, _, _, e, _⟩ := x; exact Heap.lt_size e
  | ins C dx fs => obtain ⟨_, _, _, e, _⟩ := x; exact Heap.lt_size e
  | own y => obtain ⟨_, e⟩ := x; exact Heap.lt_size e
  | xd fs => obtain ⟨_, ⟨_, _, _, e, _⟩, _⟩ := x; exact Heap.lt_size e
  | rng lo hi => obtain ⟨_, _, _, e⟩ := x; exact Heap.lt_size e
  | frz ob u => obtain ⟨e, _⟩ := x; exact Heap.lt_size e
  | tbl ps => exact Heap.lt_size (show h.get? a = some _ from x)
  | met f y => exact Heap.lt_size (show h.get? a = some _ from x)
  | ext φ => obtain ⟨_, ⟨_, e⟩, _⟩ := x; exact Heap.lt_size e
theorem Paired.mapP {α β : Type} {F G : α → β → Prop} : ∀ {l₁ : List α} {l₂ : List β}, Paired F l₁ l₂ → (∀ a b, F a b → G a b) → Paired G l₁ l₂
  | _, _, .nil, _ => .nil
  | _, _, .cons r t, f => .cons (f _ _ r) (Paired.mapP t f)
/-- what an object's description leans on: its own object, its own dict, the tuples -/
theorem ObjOk.stay (x : ObjOk P w H h a o) (k : ∀ b u, (b = a ∨ H b = some (.own a)) → h.get? b = some u → h'.get? b = some u)
    (ho : ∀ b, H b = some (.own a) → H' b = some (.own a)) (ht : ∀ b xs, H b = some (.tup xs) → H' b = some (.tup xs)) : ObjOk P w H' h' a o := by
  induction o with
  | lst xs => obtain ⟨z, its, n, r, e⟩ := x; exact ⟨z, its, n, r, k _ _ (.inl rfl) e⟩
  | tup xs => obtain ⟨z, its, r, ob, e, c⟩ := x; exact ⟨z, its, r, ob, k _ _ (.inl rfl) e, c⟩
  | dK kvs => obtain ⟨z, y, vs, r, ob, es, ep, e, c⟩ := x; exact ⟨z, y, vs, r, ob, es, ep, k _ _ (.inl rfl) e, c⟩
  | dT kvs =>
    obtain ⟨z, y, xs, r, ob, es, ep, e, c⟩ := x
    exact ⟨z, y, xs, Paired.mapP r fun p q z => ⟨z.1, ht _ _ z.2.1, z.2.2⟩, ob, es, ep, k _ _ (.inl rfl) e, c⟩
  | set S n => obtain ⟨ob, es, ep, t, e, c⟩ := x; exact ⟨ob, es, ep, t, k _ _ (.inl rfl) e, c⟩
  | ins C dx fs =>
    obtain ⟨d, z, ne, e, mA, ⟨od, es, ep, e2, c⟩, r⟩ := x
    exact ⟨ho _ d, z, ne, k _ _ (.inl rfl) e, mA, ⟨od, es, ep, k _ _ (.inr d) e2, c⟩, r⟩
  | own y => obtain ⟨ob, e⟩ := x; exact ⟨ob, k _ _ (.inl rfl) e⟩
  | xd fs => obtain ⟨mA, ⟨od, es, ep, e, c⟩, r⟩ := x; exact ⟨mA, ⟨od, es, ep, k _ _ (.inl rfl) e, c⟩, r⟩
  | rng lo hi => obtain ⟨t, u, v, e⟩ := x; exact ⟨t, u, v, k _ _ (.inl rfl) e⟩
  | frz ob u ih => obtain ⟨e, q⟩ := x; exact ⟨k _ _ (.inl rfl) e, ih q⟩
  | tbl ps =>
    have e : h.get? a = some { cls := .none, data := .fields ps } := x
    show h'.get? a = some { cls := .none, data := .fields ps }
    exact k a _ (.inl rfl) e
  | met f y =>
    have e : h.get? a = some (PySem.W.methodObj (.ref f) (.ref y)) := x
    show h'.get? a = some (PySem.W.methodObj (.ref f) (.ref y))
    exact k a _ (.inl rfl) e
  | ext φ => obtain ⟨p, ⟨o, e⟩, st⟩ := x; exact ⟨st _ _ p fun o q => k _ _ (.inl rfl) q, ⟨o, k _ _ (.inl rfl) e⟩, st⟩
theorem HOk.lt (x : HOk P w H h) (e : H a = some o) : a < h.objs.size := (x a o e).lt
theorem HOk.fresh (x : HOk P w H h) (e : h.objs.size ≤ a) : H a = none := by
  cases q : H a with
  | none => rfl
  | some u => exact absurd (Nat.lt_of_lt_of_le (x.lt q) e) (Nat.lt_irrefl _)
/-- every object of the heap is kept -/
theorem HOk.kept (x : HOk P w H h) (k : ∀ b u, h.get? b = some u → h'.get? b = some u) : HOk P w H h' := fun a o e =>
  (x a o e).stay (fun b u _ q => k b u q) (fun _ q => q) fun _ _ q => q
/-- a new object is laid and tracked -/
theorem HOk.laid (x : HOk P w H h) (k : ∀ b u, h.get? b = some u → h'.get? b = some u) (hp : h.objs.size ≤ a) (new : ObjOk P w (upd H a o) h' a o) : HOk P w (upd H a o) h' := fun b u e => by
  have hn := x.fresh hp
  by_cases hb : b = a
  · subst hb; rw [upd_same] at e; cases e; exact new
  · rw [upd_ne hb] at e
    exact (x b u e).stay (fun c v _ q => k c v q) (fun c q => by rw [upd_ne (ne_of_none q hn)]; exact q) fun c xs q => by rw [upd_ne (ne_of_none q hn)]; exact q
end

/-- what may be read as u: it is u, or a known u -/
def Rd (H : Hp) (a : Addr) (u : HO) : Prop := H a = some u ∨ ∃ o, H a = some (.frz o u)
theorem Rd.of {H : Hp} {a : Addr} {u : HO} (h : H a = some u) : Rd H a u := .inl h
theorem Rd.ok {P : Program} {w : World} {H : Hp} {h : Heap} {a : Addr} {u : HO} (r : Rd H a u) (x : HOk P w H h) : ObjOk P w H h a u := by
  rcases r with r | ⟨o, r⟩
  · exact x a u r
  · obtain ⟨_, q⟩ := x a _ r
    exact q
/-- what may be written -/
def Mut : Option HO → Prop
  | some (.lst _) => True
  | some (.dK _) => True
  | some (.dT _) => True
  | some (.set _ _) => True
  | some (.ins _ _ _) => True
  | some (.ext _) => True
  | _ => False
section
variable {P : Program} {w : World} {H : Hp} {h h' : Heap} {x e : Addr} {o' : HO}
/-- the object at e is changed: x itself, or the dict of the instance x -/
theorem HOk.write (ok : HOk P w H h) (mu : Mut (H x)) (he : e = x ∨ H e = some (.own x)) (k : ∀ b u, b ≠ e → h.get? b = some u → h'.get? b = some u) (heo : ∃ u, h'.get? e = some u)
    (new : ObjOk P w (upd H x o') h' x o') : HOk P w (upd H x o') h' := fun b u q => by
  have nown : ∀ c y, H c = some (.own y) → c ≠ x := fun c y r z => by subst z; rw [r] at mu; exact mu
  have ntup : ∀ c xs, H c = some (.tup xs) → c ≠ x := fun c xs r z => by subst z; rw [r] at mu; exact mu
  by_cases hb : b = x
  · subst hb; rw [upd_same] at q; cases q; exact new
  · rw [upd_ne hb] at q
    by_cases hbe : b = e
    · have q' : H b = some (.own x) := by
        rcases he with z | z
        · exact absurd (hbe.trans z) hb
        · rw [hbe]; exact z
      rw [q] at q'; cases q'
      obtain ⟨v, hv⟩ := heo
      exact ⟨v, by rw [hbe]; exact hv⟩
    · refine (ok b u q).stay (fun c v hc r => k c v ?_ r) (fun c r => by rw [upd_ne (nown c b r)]; exact r) fun c xs r => by rw [upd_ne (ntup c xs r)]; exact r
      rcases hc with rfl | hc
      · exact hbe
      · rintro rfl
        rcases he with z | z
        · exact nown c b hc z
        · rw [hc] at z; cases z; exact hb rfl
end

/-! ### kept unless tracked; of the frames at fs (the callers') the slots may change (an exception that passes writes there); of the records at ex (iterators) nothing is said -/
structure Un (fs ex : List Addr) (H H' : Hp) (h h' : Heap) : Prop where
  keep : ∀ b o, h.get? b = some o → H b = none → b ∉ fs → b ∉ ex → h'.get? b = some o
  slot : ∀ b o, h.get? b = some o → H b = none → b ∈ fs → b ∉ ex → ∃ sl, h'.get? b = some { o with slots := sl }
  free : ∀ b o, h.get? b = some o → H b = none → b ∉ ex → H' b = none
  there : ∀ b o, h.get? b = some o → b ∉ ex → ∃ o', h'.get? b = some o'
  tups : ∀ b xs, H b = some (.tup xs) → H' b = some (.tup xs)
  frzs : ∀ b o u, H b = some (.frz o u) → H' b = some (.frz o u)
  tbls : ∀ b ps, H b = some (.tbl ps) → ∃ more, H' b = some (.tbl (ps ++ more))
section
variable {fs fs' ex ex' : List Addr} {H H1 H2 : Hp} {h h1 h2 h' : Heap} {a x e : Addr} {o : HO}
theorem Un.any (u : Un fs ex H H1 h h1) {b : Addr} {ob : Obj} (q : h.get? b = some ob) (n : H b = none) (hx : b ∉ ex) : ∃ sl, h1.get? b = some { ob with slots := sl } := by
  by_cases hb : b ∈ fs
  · exact u.slot b ob q n hb hx
  · exact ⟨ob.slots, u.keep b ob q n hb hx⟩
theorem Un.trans (a : Un fs ex H H1 h h1) (b : Un fs ex H1 H2 h1 h2) : Un fs ex H H2 h h2 where
  keep := fun c ob q n hc hx => b.keep c ob (a.keep c ob q n hc hx) (a.free c ob q n hx) hc hx
  slot := fun c ob q n hc hx => by
    obtain ⟨sl, e1⟩ := a.slot c ob q n hc hx
    obtain ⟨sl', e2⟩ := b.slot c _ e1 (a.free c ob q n hx) hc hx
    exact ⟨sl', e2⟩
  free := fun c ob q n hx => by
    obtain ⟨o', e1⟩ := a.there c ob q hx
    exact b.free c o' e1 (a.free c ob q n hx) hx
  there := fun c ob q hx => by
    obtain ⟨o', e1⟩ := a.there c ob q hx
    exact b.there c o' e1 hx
  tups := fun c xs q => b.tups c xs (a.tups c xs q)
  frzs := fun c ob xs q => b.frzs c ob xs (a.frzs c ob xs q)
  tbls := fun c ps q => by
    obtain ⟨m1, e1⟩ := a.tbls c ps q
    obtain ⟨m2, e2⟩ := b.tbls c _ e1
    exact ⟨m1 ++ m2, by rw [e2, Array.append_assoc]⟩
theorem Un.kept (k : ∀ b u, h.get? b = some u → h'.get? b = some u) : Un fs ex H H h h' :=
  ⟨fun b ob q _ _ _ => k b ob q, fun b ob q _ _ _ => ⟨ob.slots, k b ob q⟩, fun _ _ _ n _ => n, fun b ob q _ => ⟨ob, k b ob q⟩, fun _ _ q => q, fun _ _ _ q => q, fun _ ps q => ⟨#[], by rw [q]; simp⟩⟩
theorem Un.refl : Un fs ex H H h h := Un.kept fun _ _ q => q
theorem Un.laid (k : ∀ b u, h.get? b = some u → h'.get? b = some u) (hp : h.objs.size ≤ a) (hn : H a = none) : Un fs ex H (upd H a o) h h' where
  keep := fun b u q _ _ _ => k b u q
  slot := fun b u q _ _ _ => ⟨u.slots, k b u q⟩
  free := fun b u q n _ => by rw [upd_ne (Nat.ne_of_lt (Nat.lt_of_lt_of_le (Heap.lt_size q) hp))]; exact n
  there := fun b u q _ => ⟨u, k b u q⟩
  tups := fun b xs q => by rw [upd_ne (ne_of_none q hn)]; exact q
  frzs := fun b u xs q => by rw [upd_ne (ne_of_none q hn)]; exact q
  tbls := fun b ps q => ⟨#[], by rw [upd_ne (ne_of_none q hn), q]; simp⟩
theorem Un.write (mu : Mut (H x)) (he : e = x ∨ H e = some (.own x)) (k : ∀ b u, b ≠ e → h.get? b = some u → h'.get? b = some u) (heo : ∃ u, h'.get? e = some u) : Un fs ex H (upd H x o) h h' := by
  have hx : ∀ b, H b = none → b ≠ x := fun b n z => by subst z; rw [n] at mu; exact mu
  have hb : ∀ b, H b = none → b ≠ e := fun b n z => by
    subst z
    rcases he with r | r
    · exact hx b n r
    · rw [n] at r; cases r
  have hm : ∀ b u, H b = some u → ¬ Mut (some u) → b ≠ x := fun b u q nm z => by subst z; rw [q] at mu; exact nm mu
  refine ⟨fun b u q n _ _ => k b u (hb b n) q, fun b u q n _ _ => ⟨u.slots, k b u (hb b n) q⟩, fun b u q n _ => by rw [upd_ne (hx b n)]; exact n, fun b u q _ => ?_,
    fun b xs q => by rw [upd_ne (hm b _ q fun z => z)]; exact q, fun b u xs q => by rw [upd_ne (hm b _ q fun z => z)]; exact q, fun b ps q => ⟨#[], by rw [upd_ne (hm b _ q fun z => z), q]; simp⟩⟩
  by_cases hbe : b = e
  · subst hbe; exact heo
  · exact ⟨u, k b u hbe q⟩
theorem Un.mono (u : Un fs ex H H1 h h1) (hs : ∀ b ∈ fs, b ∈ fs') (hx : ∀ b ∈ ex, b ∈ ex') : Un fs' ex' H H1 h h1 :=
  ⟨fun b ob q n hb he => u.keep b ob q n (fun z => hb (hs b z)) fun z => he (hx b z), fun _ _ q n _ he => u.any q n fun z => he (hx _ z), fun b ob q n he => u.free b ob q n fun z => he (hx b z), fun b ob q he => u.there b ob q fun z => he (hx b z), u.tups, u.frzs, u.tbls⟩
end

/-! ### the heap without what is tracked -/
def trk (h : Heap) (H : Hp) : List Addr := (List.range h.objs.size).filter fun a => (H a).isSome
def hidT (h : Heap) (H : Hp) : Heap := PySem.W.hideAll h (trk h H)
theorem hidT_size (h : Heap) (H : Hp) : (hidT h H).objs.size = h.objs.size := PySem.W.hideAll_size _ _
theorem hidT_get {h : Heap} {H : Hp} {b : Addr} {o : Obj} (e : h.get? b = some o) (n : H b = none) : (hidT h H).get? b = some o :=
  PySem.W.hideAll_get _ e fun hm => by
    have q : (H b).isSome = true := (List.mem_filter.mp hm).2
    rw [n] at q; simp at q
theorem of_hidT {h : Heap} {H : Hp} {b : Addr} {o : Obj} (e : (hidT h H).get? b = some o) : h.get? b = some o ∧ H b = none := by
  have e' : h.get? b = some o := PySem.W.of_hideAll (trk h H) e
  refine ⟨e', ?_⟩
  cases q : H b with
  | none => rfl
  | some x =>
    have hm : b ∈ trk h H := List.mem_filter.mpr ⟨List.mem_range.mpr (Heap.lt_size e'), by simp [q]⟩
    have z : (hidT h H).get? b = none := PySem.W.hideAll_none (trk h H) hm
    rw [z] at e; cases e

/-! ### OpenK's ledger, filled with every new object but one -/
def allNews (g h : Heap) (L : Addr) : List (Addr × Obj) := (List.range h.objs.size).filterMap fun a => if a = L ∨ (g.get? a).isSome = true then none else (h.get? a).map fun o => (a, o)
def rest (g h : Heap) (L d : Addr) : List (Addr × Obj) := (allNews g h L).filter fun p => decide (p.1 ≠ d)
end L2

namespace L2
open PySem PySem.Spec PyProof.Rows

/-- the module's facts, over the base: the heap at the law's entry without what is tracked there -/
structure Mod (K : PySem.W.Frag) (mg : Str → Option Value) (base : Heap) : Prop where
  kin : K.In base
  glob : base.Ns mainGlobals mg
  blt : ∃ mb, base.Ns builtinsNs mb ∧ ∀ x : Str, x ≠ "__name__" → mb x = bootBuiltins x
  nolimit : base.NoLimit

/-- the context: a def's body (or a comprehension's block) running. base: fixed through the whole law; s₀, H₀: the entry; outer: the frames whose slots others may change (a def's callers); stack: all frames that run;
   ex: iterators that were made ahead of the entry and are walked here (a comprehension's); fn: the names whose cells were made at the entry (a def: all; a comprehension's block: its own); calm: not within an except suite; pn: pins that every state bears; xe: what is wanted of an exception that leaves the code -/
structure Cx where
  prog : Program
  w : World
  K : PySem.W.Frag
  mg : Str → Option Value
  base : Heap
  A : Around
  N : List Str
  s₀ : Shared
  H₀ : Hp
  env : Env
  outer : List Env
  stack : List Env
  ex : List Addr
  fn : Str → Bool
  calm : Bool
  pn : List (Addr × Obj)
  xe : Value → Shared → Prop
/-- the callers' frames -/
def frs (l : List Env) : List Addr := l.filterMap (·.frame)
abbrev Cx.fs (X : Cx) : List Addr := frs X.outer

def Vis (sc : Scope) (x : Str) : Prop := sc.names.lookup x = some .local ∨ sc.names.lookup x = some .cell ∨ sc.names.lookup x = some .free
def Loc (sc : Scope) (x : Str) : Prop := sc.names.lookup x = some .local ∨ sc.names.lookup x = some .cell
def Look (env : Env) (h : Heap) (m : Str → Option Value) (x : Str) (u : Value) : Prop :=
  (env.kindOf x = some .local ∧ m x = some u) ∨ ((env.kindOf x = some .cell ∨ env.kindOf x = some .free) ∧ ∃ c, env.cells.lookup x = some c ∧ h.IsCell c (some u))

structure Cx.Ok (X : Cx) : Prop where
  mod : Mod X.K X.mg X.base
  kind : X.env.scope.kind = .function
  glob : X.env.globals = mainGlobals
  blt : X.env.builtins = builtinsNs
  above : X.s₀.heap.objs.size ≤ X.env.locals
  inj : ∀ x y c, X.env.cells.lookup x = some c → X.env.cells.lookup y = some c → x = y
  has : ∀ x, (X.env.kindOf x = some .cell ∨ X.env.kindOf x = some .free) → ∃ c, X.env.cells.lookup x = some c
  cab : ∀ x c, X.fn x = true → X.env.cells.lookup x = some c → X.s₀.heap.objs.size ≤ c
  hd : X.calm = true → X.A.handled = none
  frames : X.A.frames = some X.stack
  stk : X.stack = X.outer ∨ (X.stack = X.env :: X.outer ∧ X.env.frame = some X.env.locals)
  exf : ∀ b ∈ X.ex, b ≠ X.env.locals ∧ ∀ x c, X.env.cells.lookup x = some c → c ≠ b
  bs : ∀ b o, X.base.get? b = some o → X.s₀.heap.get? b = some o ∧ X.H₀ b = none
  bsz : X.base.objs.size ≤ X.s₀.heap.objs.size
  noex : ∀ b o, X.base.get? b = some o → b ∉ X.ex
  exfs : ∀ b ∈ X.ex, b ∉ X.fs
  funs : X.s₀.heap.FunFrames X.base X.outer
  frf : ∀ b ∈ X.fs, X.H₀ b = none

structure Inv (X : Cx) (pins : List (Addr × Obj)) (σ : List (Option V)) (H : Hp) (s : Shared) : Prop where
  ok : X.Ok
  os : s.os = X.s₀.os
  bare : AllBare s.gens
  base : Un X.fs X.ex X.H₀ H X.s₀.heap s.heap
  loc : ∃ m, s.heap.Ns X.env.locals m ∧ ∀ (i : Nat) (x : Str) (v : V), X.N[i]? = some x → σ[i]? = some (some v) → Vis X.env.scope x → ∃ u, RelV v u ∧ Look X.env s.heap m x u
  cell : ∀ x c, X.env.cells.lookup x = some c → ∃ v, s.heap.IsCell c v
  free : H X.env.locals = none
  freeC : ∀ x c, X.env.cells.lookup x = some c → H c = none
  pin : ∀ p ∈ X.pn ++ pins, s.heap.get? p.1 = some p.2 ∧ H p.1 = none ∧ p.1 ≠ X.env.locals ∧ p.1 ∉ X.fs ∧ ∀ v, p.2.data ≠ .cell v
  hok : HOk X.prog X.w H s.heap
  len : σ.length = X.N.length

section
variable {X : Cx} {pins : List (Addr × Obj)} {σ : List (Option V)} {H H' : Hp} {s : Shared} {h' : Heap}

theorem Cx.Ok.nofr (ok : X.Ok) {b : Addr} {o : Obj} (e : X.base.get? b = some o) : b ∉ X.fs := fun hb => by
  have := (ok.funs.mem hb).1
  rw [e] at this; cases this
theorem Inv.bs (I : Inv X pins σ H s) : ∀ b o, X.base.get? b = some o → s.heap.get? b = some o ∧ H b = none := fun b o e =>
  ⟨I.base.keep b o (I.ok.bs b o e).1 (I.ok.bs b o e).2 (I.ok.nofr e) (I.ok.noex b o e), I.base.free b o (I.ok.bs b o e).1 (I.ok.bs b o e).2 (I.ok.noex b o e)⟩
theorem Inv.bk (I : Inv X pins σ H s) : ∀ b o, X.base.get? b = some o → s.heap.get? b = some o := fun b o e => (I.bs b o e).1
theorem Inv.mod (I : Inv X pins σ H s) : Mod X.K X.mg X.base := I.ok.mod
theorem Inv.kIn (I : Inv X pins σ H s) : X.K.In s.heap := I.ok.mod.kin.keeps I.bk
theorem Inv.nolimit (I : Inv X pins σ H s) : s.heap.NoLimit := I.ok.mod.nolimit.keeps I.bk
/-- the frame over the base: for OpenK's rules (K.In X.base is I.mod.kin) -/
theorem Inv.fr (I : Inv X pins σ H s) : ∃ m, Fr X.base X.env.locals s.heap m :=
  let ⟨m, hn, _⟩ := I.loc
  ⟨m, hn, I.bk, Nat.le_trans I.ok.bsz I.ok.above⟩
theorem Inv.lt (I : Inv X pins σ H s) : X.env.locals < s.heap.objs.size := let ⟨_, hn, _⟩ := I.loc; hn.lt
theorem Inv.sz (I : Inv X pins σ H s) : X.s₀.heap.objs.size ≤ s.heap.objs.size := Nat.le_trans I.ok.above (Nat.le_of_lt I.lt)
theorem Inv.nofs (I : Inv X pins σ H s) {a : Addr} (h : s.heap.objs.size ≤ a) : a ∉ X.fs := fun hb => by
  obtain ⟨_, o, ho, _⟩ := I.ok.funs.mem hb
  exact absurd (Nat.lt_of_lt_of_le (Heap.lt_size ho) (Nat.le_trans I.sz h)) (Nat.lt_irrefl _)
theorem Inv.cne (I : Inv X pins σ H s) : ∀ x c, X.env.cells.lookup x = some c → c ≠ X.env.locals := fun x c e z => by
  obtain ⟨v, o, ho, hd⟩ := I.cell x c e
  obtain ⟨m, ⟨o', es, ep, ho', hd', _⟩, _⟩ := I.loc
  rw [z, ho'] at ho; cases ho; rw [hd'] at hd; cases hd
theorem Inv.funs (I : Inv X pins σ H s) : s.heap.FunFrames X.base X.outer := by
  have all : ∀ (l : List Env), (∀ b ∈ frs l, b ∈ X.fs) → X.s₀.heap.FunFrames X.base l → s.heap.FunFrames X.base l := by
    intro l
    induction l with
    | nil => intro _ _; trivial
    | cons env r ih =>
      intro hs hl
      obtain ⟨hk, ⟨L, o, hf, hn, ho, hd⟩, hr⟩ := hl
      have hL : L ∈ X.fs := hs L (by unfold frs; rw [List.filterMap_cons, hf]; exact List.mem_cons_self)
      obtain ⟨sl, e⟩ := I.base.slot L o ho (I.ok.frf L hL) hL fun z => I.ok.exfs L z hL
      exact ⟨hk, ⟨L, _, hf, hn, e, hd⟩, ih (fun b hb => hs b (by unfold frs; rw [List.filterMap_cons, hf]; exact List.mem_cons_of_mem _ hb)) hr⟩
  exact all X.outer (fun _ hb => hb) I.ok.funs

/-- the frames that run, for a call -/
theorem Inv.stack (I : Inv X pins σ H s) : s.heap.FunFrames X.base X.stack := by
  rcases I.ok.stk with e | ⟨e, hf⟩
  · rw [e]; exact I.funs
  · rw [e]
    obtain ⟨m, hn, _⟩ := I.loc
    refine .cons (by rw [I.ok.kind]; decide) hf hn ?_ I.funs
    exact Heap.get?_none_of_le (Nat.le_trans I.ok.bsz I.ok.above)
theorem Inv.stkSub (I : Inv X pins σ H s) : ∀ b ∈ frs X.stack, b ∈ X.env.locals :: X.fs := fun b hb => by
  rcases I.ok.stk with e | ⟨e, hf⟩
  · rw [e] at hb; exact List.mem_cons_of_mem _ hb
  · rw [e] at hb
    unfold frs at hb
    rw [List.filterMap_cons, hf] at hb
    exact hb
theorem Inv.stkFree (I : Inv X pins σ H s) : ∀ b ∈ frs X.stack, H b = none := fun b hb => by
  rcases List.mem_cons.mp (I.stkSub b hb) with e | hb
  · rw [e]; exact I.free
  · obtain ⟨_, o, ho, _⟩ := I.ok.funs.mem hb
    exact I.base.free b o ho (I.ok.frf b hb) fun z => I.ok.exfs b z hb

/-- THE STEP: the untracked objects but the frame and the records at ch are kept (the callers' frames up to slots), the frame's map is kept, the new abstract heap is held -/
theorem Inv.step {g' : Array GenState} {t' : Nat} {d' : Drawn} {ch : List Addr} (I : Inv X pins σ H s)
    (hch : ∀ b ∈ ch, (b ∈ X.ex ∨ X.s₀.heap.objs.size ≤ b) ∧ b ≠ X.env.locals ∧ (∀ x c, X.env.cells.lookup x = some c → c ≠ b) ∧ ∀ p ∈ X.pn ++ pins, p.1 ≠ b)
    (keep : ∀ b o, b ≠ X.env.locals → b ∉ X.fs → b ∉ ch → s.heap.get? b = some o → H b = none → h'.get? b = some o)
    (slot : ∀ b o, b ≠ X.env.locals → b ∈ X.fs → b ∉ ch → s.heap.get? b = some o → H b = none → ∃ sl, h'.get? b = some { o with slots := sl }) (free : ∀ b o, b ∉ ch → s.heap.get? b = some o → H b = none → H' b = none)
    (there : ∀ b o, b ∉ ch → s.heap.get? b = some o → ∃ o', h'.get? b = some o')
    (tups : ∀ b xs, H b = some (.tup xs) → H' b = some (.tup xs)) (frzs : ∀ b o u, H b = some (.frz o u) → H' b = some (.frz o u)) (tbls : ∀ b ps, H b = some (.tbl ps) → ∃ more, H' b = some (.tbl (ps ++ more)))
    (ns : ∀ m, s.heap.Ns X.env.locals m → h'.Ns X.env.locals m) (hok : HOk X.prog X.w H' h') (hg : AllBare g') :
    Inv X pins σ H' { s with heap := h', gens := g', drawn := d', toks := t' } := by
  have neL : ∀ b o, X.s₀.heap.get? b = some o → b ≠ X.env.locals := fun b o e => Nat.ne_of_lt (Nat.lt_of_lt_of_le (Heap.lt_size e) I.ok.above)
  have neC : ∀ b o, X.s₀.heap.get? b = some o → b ∉ X.ex → b ∉ ch := fun b o e hx hb => by
    rcases (hch b hb).1 with z | z
    · exact hx z
    · exact absurd (Nat.lt_of_lt_of_le (Heap.lt_size e) z) (Nat.lt_irrefl _)
  have cellK : ∀ x c, X.env.cells.lookup x = some c → ∀ v, s.heap.IsCell c v → h'.IsCell c v := fun x c e v ⟨o, ho, hd⟩ => by
    have nch : c ∉ ch := fun z => (hch c z).2.2.1 x c e rfl
    by_cases hc : c ∈ X.fs
    · obtain ⟨sl, q⟩ := slot c o (I.cne x c e) hc nch ho (I.freeC x c e)
      exact ⟨_, q, hd⟩
    · exact ⟨o, keep c o (I.cne x c e) hc nch ho (I.freeC x c e), hd⟩
  refine ⟨I.ok, I.os, hg, ⟨fun b o e n hb hx => ?_, fun b o e n hb hx => ?_, fun b o e n hx => ?_, fun b o e hx => ?_, fun b xs e => tups b xs (I.base.tups b xs e), fun b o xs e => frzs b o xs (I.base.frzs b o xs e), fun b ps e => ?_⟩, ?_, fun x c e => ?_, ?_, fun x c e => ?_, fun p hp => ?_, hok, I.len⟩
  · exact keep b o (neL b o e) hb (neC b o e hx) (I.base.keep b o e n hb hx) (I.base.free b o e n hx)
  · obtain ⟨sl, e1⟩ := I.base.slot b o e n hb hx
    obtain ⟨sl', e2⟩ := slot b _ (neL b o e) hb (neC b o e hx) e1 (I.base.free b o e n hx)
    exact ⟨sl', e2⟩
  · obtain ⟨o', e1⟩ := I.base.there b o e hx
    exact free b o' (neC b o e hx) e1 (I.base.free b o e n hx)
  · obtain ⟨o', e1⟩ := I.base.there b o e hx
    exact there b o' (neC b o e hx) e1
  · obtain ⟨m1, e1⟩ := I.base.tbls b ps e
    obtain ⟨m2, e2⟩ := tbls b _ e1
    exact ⟨m1 ++ m2, by rw [e2, Array.append_assoc]⟩
  · obtain ⟨m, hn, hl⟩ := I.loc
    refine ⟨m, ns m hn, fun i x v e1 e2 e3 => ?_⟩
    obtain ⟨u, r, l⟩ := hl i x v e1 e2 e3
    refine ⟨u, r, ?_⟩
    rcases l with l | ⟨k, c, e, z⟩
    · exact .inl l
    · exact .inr ⟨k, c, e, cellK x c e _ z⟩
  · obtain ⟨v, z⟩ := I.cell x c e
    exact ⟨v, cellK x c e v z⟩
  · obtain ⟨m, ⟨o, _, _, ho, _⟩, _⟩ := I.loc
    exact free _ o (fun z => (hch _ z).2.1 rfl) ho I.free
  · obtain ⟨v, o, ho, hd⟩ := I.cell x c e
    exact free c o (fun z => (hch c z).2.2.1 x c e rfl) ho (I.freeC x c e)
  · obtain ⟨e, n, ne, nf, d⟩ := I.pin p hp
    have nch : p.1 ∉ ch := fun z => (hch p.1 z).2.2.2 p hp rfl
    exact ⟨keep p.1 p.2 ne nf nch e n, free p.1 p.2 nch e n, ne, nf, d⟩
/-- .. where the frame's own object is kept too -/
theorem Inv.un {t' : Nat} (I : Inv X pins σ H s) (u : Un X.fs [] H H' s.heap h') (hok : HOk X.prog X.w H' h') : Inv X pins σ H' { s with heap := h', toks := t' } := by
  obtain ⟨m, ⟨o, es, ep, ho, r⟩, _⟩ := id I.loc
  obtain ⟨sl, hL⟩ := u.any ho I.free (by simp)
  exact I.step (g' := s.gens) (d' := s.drawn) (ch := []) (fun _ z => nomatch z) (fun b o _ hb _ e n => u.keep b o e n hb (by simp)) (fun b o _ hb _ e n => u.slot b o e n hb (by simp)) (fun b o _ e n => u.free b o e n (by simp)) (fun b o _ e => u.there b o e (by simp)) u.tups u.frzs u.tbls (fun m' hm => by
    obtain ⟨o', es', ep', ho', r'⟩ := hm
    rw [ho] at ho'; cases ho'
    exact ⟨_, es', ep', hL, r'⟩) hok I.bare
/-- behind a call (or a comprehension's block): the slots of this frame may have changed too, the records at ch may have turned -/
theorem Inv.call {g' : Array GenState} {t' : Nat} {d' : Drawn} {ch : List Addr} (I : Inv X pins σ H s) (u : Un (frs X.stack) ch H H' s.heap h') (hok : HOk X.prog X.w H' h') (hg : AllBare g')
    (hch : ∀ b ∈ ch, (b ∈ X.ex ∨ X.s₀.heap.objs.size ≤ b) ∧ b ≠ X.env.locals ∧ (∀ x c, X.env.cells.lookup x = some c → c ≠ b) ∧ ∀ p ∈ X.pn ++ pins, p.1 ≠ b) :
    Inv X pins σ H' { s with heap := h', gens := g', drawn := d', toks := t' } := by
  obtain ⟨m, ⟨o, es, ep, ho, r⟩, _⟩ := id I.loc
  obtain ⟨sl, hL⟩ := u.any ho I.free fun z => (hch _ z).2.1 rfl
  exact I.step (ch := ch) hch (fun b o hL hb hc e n => u.keep b o e n (fun z => (List.mem_cons.mp (I.stkSub b z)).elim hL hb) hc) (fun b o _ _ hc e n => u.any e n hc) (fun b o hc e n => u.free b o e n hc) (fun b o hc e => u.there b o e hc) u.tups u.frzs u.tbls (fun m' hm => by
    obtain ⟨o', es', ep', ho', r'⟩ := hm
    rw [ho] at ho'; cases ho'
    exact ⟨_, es', ep', hL, r'⟩) hok hg
/-- an untracked record of ours (an iterator) has turned -/
theorem Inv.turned {t' : Nat} {it : Addr} (I : Inv X pins σ H s) (k : ∀ b o, b ≠ it → s.heap.get? b = some o → h'.get? b = some o) (hn : H it = none) (hL : it ≠ X.env.locals)
    (h1 : it ∈ X.ex ∨ X.s₀.heap.objs.size ≤ it) (h2 : ∀ x c, X.env.cells.lookup x = some c → c ≠ it) (h3 : ∀ p ∈ X.pn ++ pins, p.1 ≠ it) : Inv X pins σ H { s with heap := h', toks := t' } := by
  have nit : ∀ b u, H b = some u → b ≠ it := fun b u e z => by rw [z, hn] at e; cases e
  refine I.step (g' := s.gens) (d' := s.drawn) (ch := [it]) (fun b hb => ?_) (fun b o _ _ hc e _ => k b o (fun z => hc (by simp [z])) e) (fun b o _ _ hc e _ => ⟨o.slots, k b o (fun z => hc (by simp [z])) e⟩) (fun _ _ _ _ n => n)
    (fun b o hc e => ⟨o, k b o (fun z => hc (by simp [z])) e⟩) (fun _ _ e => e) (fun _ _ _ e => e) (fun b ps e => ⟨#[], by rw [e]; simp⟩) (fun m hm => ?_) (fun b u e => ?_) I.bare
  · have e : b = it := by simpa using hb
    subst e
    exact ⟨h1, hL, h2, h3⟩
  · obtain ⟨o, es, ep, ho, r⟩ := hm
    exact ⟨o, es, ep, k _ o (Ne.symm hL) ho, r⟩
  · refine (I.hok b u e).stay (fun c v hc q => k c v ?_ q) (fun _ q => q) fun _ _ q => q
    rcases hc with z | z
    · rw [z]; exact nit b u e
    · exact nit c _ z
theorem Inv.tok (I : Inv X pins σ H s) (t : Nat) : Inv X pins σ H { s with toks := t } := I.un (h' := s.heap) (t' := t) Un.refl I.hok
/-- all objects kept -/
theorem Inv.kept {t' : Nat} (I : Inv X pins σ H s) (k : ∀ b u, s.heap.get? b = some u → h'.get? b = some u) : Inv X pins σ H { s with heap := h', toks := t' } := I.un (Un.kept k) (I.hok.kept k)
/-- a new object laid and tracked -/
theorem Inv.laid {a : Addr} {o : HO} {t' : Nat} (I : Inv X pins σ H s) (k : ∀ b u, s.heap.get? b = some u → h'.get? b = some u) (hp : s.heap.objs.size ≤ a) (new : ObjOk X.prog X.w (upd H a o) h' a o) :
    Inv X pins σ (upd H a o) { s with heap := h', toks := t' } := I.un (Un.laid k hp (I.hok.fresh hp)) (I.hok.laid k hp new)
/-- an object written -/
theorem Inv.write {x e : Addr} {o : HO} {t' : Nat} (I : Inv X pins σ H s) (mu : Mut (H x)) (he : e = x ∨ H e = some (.own x)) (k : ∀ b u, b ≠ e → s.heap.get? b = some u → h'.get? b = some u) (heo : ∃ u, h'.get? e = some u)
    (new : ObjOk X.prog X.w (upd H x o) h' x o) : Inv X pins σ (upd H x o) { s with heap := h', toks := t' } := I.un (Un.write mu he k heo) (I.hok.write mu he k heo new)
theorem Inv.pins_of {pins' : List (Addr × Obj)} (I : Inv X pins σ H s) (h : ∀ p ∈ pins', s.heap.get? p.1 = some p.2 ∧ H p.1 = none ∧ p.1 ≠ X.env.locals ∧ p.1 ∉ X.fs ∧ ∀ v, p.2.data ≠ .cell v) : Inv X pins' σ H s :=
  ⟨I.ok, I.os, I.bare, I.base, I.loc, I.cell, I.free, I.freeC, fun p hp => (List.mem_append.mp hp).elim (fun z => I.pin p (List.mem_append_left _ z)) (h p), I.hok, I.len⟩

theorem nodup_ix {N : List Str} (hN : N.Nodup) {i j : Nat} {x : Str} (a : N[i]? = some x) (b : N[j]? = some x) : i = j := by
  obtain ⟨h1, e1⟩ := List.getElem?_eq_some_iff.mp a
  obtain ⟨h2, e2⟩ := List.getElem?_eq_some_iff.mp b
  exact (List.getElem_inj hN).mp (e1.trans e2.symm)

/-- a name is stored; what changed -/
theorem store_ok2 {M : Model} {A : Around} {E : Value → Shared → Prop} {i : Nat} {x : Str} {v : V} {u : Value} {Q : Unit → Shared → Prop} (I : Inv X pins σ H s) (hN : X.N.Nodup) (hi : X.N[i]? = some x) (hx : Loc X.env.scope x) (r : RelV v u)
    (h : ∀ s', Inv X pins (σ.set i (some v)) H s' → (∃ a, Heap.SameBut a s.heap s'.heap ∧ (a = X.env.locals ∨ X.env.cells.lookup x = some a)) → Q () s') (hf : X.fn x = true ∨ X.env.scope.names.lookup x = some .local := by first | exact .inl rfl | exact .inr rfl | assumption) : wpAny M A (storeName X.env x u) Q E s := by
  obtain ⟨m, hn, hl⟩ := id I.loc
  have hcls : (X.env.scope.kind == .class || (X.env.scope.kind == .module && X.env.locals != X.env.globals)) = false := by rw [I.ok.kind]; rfl
  have hiσ : i < σ.length := by rw [I.len]; exact (List.getElem?_eq_some_iff.mp hi).1
  have cne := I.cne
  have tracked : ∀ {a : Addr} {h' : Heap}, (∃ o, s.heap.get? a = some o ∧ H a = none) → Heap.SameBut a s.heap h' → HOk X.prog X.w H h' := fun {a h'} ha hs b ob e => by
    obtain ⟨_, _, hfree⟩ := ha
    refine (I.hok b ob e).stay (fun c w' hc q => (hs.2 c ?_).trans q) (fun _ q => q) fun _ _ q => q
    rintro rfl
    rcases hc with rfl | hc
    · rw [hfree] at e; cases e
    · rw [hfree] at hc; cases hc
  rcases hx with hk | hk
  · refine wpAny_storeName_local hk hn (fun h' hn' hs => ?_) hcls
    obtain ⟨oL, _, _, hoL, _⟩ := id hn
    refine h _ ⟨I.ok, I.os, I.bare, ⟨fun b o e n hb hx => ?_, fun b o e n hb hx => ?_, I.base.free, fun b o e hx => ?_, I.base.tups, I.base.frzs, I.base.tbls⟩, ⟨_, hn', fun j y v' e1 e2 e3 => ?_⟩, fun y c e => ?_, I.free, I.freeC, fun p hp => ?_, tracked ⟨oL, hoL, I.free⟩ hs, by simpa using I.len⟩ ⟨_, hs, .inl rfl⟩
    · exact (hs.2 b (Nat.ne_of_lt (Nat.lt_of_lt_of_le (Heap.lt_size e) I.ok.above))).trans (I.base.keep b o e n hb hx)
    · obtain ⟨sl, e1⟩ := I.base.slot b o e n hb hx
      exact ⟨sl, (hs.2 b (Nat.ne_of_lt (Nat.lt_of_lt_of_le (Heap.lt_size e) I.ok.above))).trans e1⟩
    · obtain ⟨o', e1⟩ := I.base.there b o e hx
      exact ⟨o', (hs.2 b (Nat.ne_of_lt (Nat.lt_of_lt_of_le (Heap.lt_size e) I.ok.above))).trans e1⟩
    · by_cases hj : j = i
      · subst hj
        rw [hi] at e1; cases e1
        rw [List.getElem?_set_self hiσ] at e2
        cases e2
        exact ⟨u, r, .inl ⟨hk, by simp⟩⟩
      · rw [List.getElem?_set_ne (Ne.symm hj)] at e2
        obtain ⟨u', r', q⟩ := hl j y v' e1 e2 e3
        refine ⟨u', r', ?_⟩
        rcases q with ⟨k, e⟩ | ⟨k, c, e, z⟩
        · refine .inl ⟨k, ?_⟩
          have : y ≠ x := fun e => hj (nodup_ix hN e1 (e ▸ hi))
          simp [this, e]
        · exact .inr ⟨k, c, e, z.sameBut hs (cne y c e)⟩
    · obtain ⟨w', z⟩ := I.cell y c e
      exact ⟨w', z.sameBut hs (cne y c e)⟩
    · obtain ⟨e, n, ne, nf, d⟩ := I.pin p hp
      exact ⟨(hs.2 p.1 ne).trans e, n, ne, nf, d⟩
  · have hfn : X.fn x = true := by
      rcases hf with z | z
      · exact z
      · rw [z] at hk; cases hk
    obtain ⟨c, hc⟩ := I.ok.has x (.inl hk)
    obtain ⟨w', z⟩ := I.cell x c hc
    refine wpAny_storeName_cell I.ok.kind hk hc z (fun h' hc' hs => ?_)
    obtain ⟨oc, hoc, hocd⟩ := id z
    refine h { s with heap := h' } ⟨I.ok, I.os, I.bare, ⟨fun b o e n hb hx => ?_, fun b o e n hb hx => ?_, I.base.free, fun b o e hx => ?_, I.base.tups, I.base.frzs, I.base.tbls⟩, ⟨m, hn.sameBut hs (Ne.symm (cne x c hc)), fun j y v' e1 e2 e3 => ?_⟩, fun y c' e => ?_, I.free, I.freeC, fun p hp => ?_, tracked ⟨oc, hoc, I.freeC x c hc⟩ hs, by simpa using I.len⟩ ⟨c, hs, .inr hc⟩
    · exact (hs.2 b (Nat.ne_of_lt (Nat.lt_of_lt_of_le (Heap.lt_size e) (I.ok.cab x c hfn hc)))).trans (I.base.keep b o e n hb hx)
    · obtain ⟨sl, e1⟩ := I.base.slot b o e n hb hx
      exact ⟨sl, (hs.2 b (Nat.ne_of_lt (Nat.lt_of_lt_of_le (Heap.lt_size e) (I.ok.cab x c hfn hc)))).trans e1⟩
    · obtain ⟨o', e1⟩ := I.base.there b o e hx
      exact ⟨o', (hs.2 b (Nat.ne_of_lt (Nat.lt_of_lt_of_le (Heap.lt_size e) (I.ok.cab x c hfn hc)))).trans e1⟩
    · by_cases hj : j = i
      · subst hj
        rw [hi] at e1; cases e1
        rw [List.getElem?_set_self hiσ] at e2
        cases e2
        exact ⟨u, r, .inr ⟨.inl hk, c, hc, hc'⟩⟩
      · rw [List.getElem?_set_ne (Ne.symm hj)] at e2
        obtain ⟨u', r', q⟩ := hl j y v' e1 e2 e3
        refine ⟨u', r', ?_⟩
        rcases q with q | ⟨k, c', e, z'⟩
        · exact .inl q
        · refine .inr ⟨k, c', e, z'.sameBut hs ?_⟩
          rintro rfl
          exact hj (nodup_ix hN e1 (I.ok.inj _ _ _ e hc ▸ hi))
    · by_cases hcc : c' = c
      · subst hcc; exact ⟨_, hc'⟩
      · obtain ⟨w2, z2⟩ := I.cell y c' e
        exact ⟨w2, z2.sameBut hs hcc⟩
    · obtain ⟨e, n, ne, nf, d⟩ := I.pin p hp
      refine ⟨(hs.2 p.1 ?_).trans e, n, ne, nf, d⟩
      intro q
      rw [q, hoc] at e
      have q' : oc = p.2 := Option.some.inj e
      exact d w' (by rw [← q']; exact hocd)
theorem store_ok {M : Model} {A : Around} {E : Value → Shared → Prop} {i : Nat} {x : Str} {v : V} {u : Value} {Q : Unit → Shared → Prop} (I : Inv X pins σ H s) (hN : X.N.Nodup) (hi : X.N[i]? = some x) (hx : Loc X.env.scope x) (r : RelV v u)
    (h : ∀ s', Inv X pins (σ.set i (some v)) H s' → Q () s') (hf : X.fn x = true ∨ X.env.scope.names.lookup x = some .local := by first | exact .inl rfl | exact .inr rfl | assumption) : wpAny M A (storeName X.env x u) Q E s :=
  store_ok2 I hN hi hx r (fun s' I' _ => h s' I') hf
/-- behind a call or a block, the state as it is -/
theorem Inv.call' {s' : Shared} {ch : List Addr} (I : Inv X pins σ H s) (ho : s'.os = s.os) (u : Un (frs X.stack) ch H H' s.heap s'.heap) (hok : HOk X.prog X.w H' s'.heap) (hg : AllBare s'.gens)
    (hch : ∀ b ∈ ch, (b ∈ X.ex ∨ X.s₀.heap.objs.size ≤ b) ∧ b ≠ X.env.locals ∧ (∀ x c, X.env.cells.lookup x = some c → c ≠ b) ∧ ∀ p ∈ X.pn ++ pins, p.1 ≠ b) : Inv X pins σ H' s' := by
  obtain ⟨h', g', d', t', o'⟩ := s'
  have e : o' = s.os := ho
  subst e
  exact I.call (g' := g') (t' := t') (d' := d') u hok hg hch
end

/-! ### the judgements -/
/-- an exception: its class, its own dict's address (where it has one), the abstract heap behind it -/
abbrev XK := Value → Option Addr → Hp → Prop
abbrev St := List (Option V)
abbrev VK := V → Hp → Prop
/-- an expression's reading; a test's; an argument list's -/
abbrev TE := St → Hp → VK → Prop
abbrev TT := St → Hp → (Bool → Hp → Prop) → Prop
abbrev TA := St → Hp → (List V → Hp → Prop) → Prop
/-- what is wanted behind a statement -/
structure Ends where
  nx : St → Hp → Prop
  rt : VK
  bk : St → Hp → Prop := fun _ _ => False
  ct : St → Hp → Prop := fun _ _ => False
abbrev TS := Ends → St → Hp → Prop

def EP (X : Cx) (pins : List (Addr × Obj)) (σ : St) (Q : VK) (u : Value) (s' : Shared) : Prop := ∃ v H', Inv X pins σ H' s' ∧ RelV v u ∧ Q v H'
def TP (X : Cx) (pins : List (Addr × Obj)) (σ : St) (Q : Bool → Hp → Prop) (b : Bool) (s' : Shared) : Prop := ∃ H', Inv X pins σ H' s' ∧ Q b H'
def AP (X : Cx) (pins : List (Addr × Obj)) (σ : St) (Q : List V → Hp → Prop) (us : List Value) (s' : Shared) : Prop := ∃ vs H', Inv X pins σ H' s' ∧ Vals vs us ∧ Q vs H'
def SP (X : Cx) (pins : List (Addr × Obj)) (D : Ends) (f : Flow) (s' : Shared) : Prop :=
  match f with
  | .next => ∃ σ' H', Inv X pins σ' H' s' ∧ D.nx σ' H'
  | .brk => ∃ σ' H', Inv X pins σ' H' s' ∧ D.bk σ' H'
  | .cont => ∃ σ' H', Inv X pins σ' H' s' ∧ D.ct σ' H'
  | .ret u => ∃ v σ' H', Inv X pins σ' H' s' ∧ RelV v u ∧ D.rt v H'

def PE (X : Cx) (e : Expr) (t : TE) : Prop :=
  ∀ (pins : List (Addr × Obj)) (s : Shared) (σ : St) (H : Hp) (Q : VK), Inv X pins σ H s → t σ H Q → wpAny (model X.prog X.w) X.A (eval e X.env) (EP X pins σ Q) X.xe s
def PT (X : Cx) (e : Expr) (t : TT) : Prop :=
  ∀ (pins : List (Addr × Obj)) (s : Shared) (σ : St) (H : Hp) (Q : Bool → Hp → Prop), Inv X pins σ H s → t σ H Q → wpAny (model X.prog X.w) X.A (isTrue e X.env (eval e X.env)) (TP X pins σ Q) X.xe s
/-- a test whatever its 'whole' is (and, or) -/
def PW (X : Cx) (e : Expr) (t : TT) : Prop :=
  ∀ (whole : Sem Value) (pins : List (Addr × Obj)) (s : Shared) (σ : St) (H : Hp) (Q : Bool → Hp → Prop), Inv X pins σ H s → t σ H Q → wpAny (model X.prog X.w) X.A (isTrue e X.env whole) (TP X pins σ Q) X.xe s
theorem PW.pt {X : Cx} {e : Expr} {t : TT} (h : PW X e t) : PT X e t := h _
/-- an argument list (no star), from the left -/
def PA (X : Cx) (es : List Expr) (t : TA) : Prop :=
  ∀ (pos : Pos) (pins : List (Addr × Obj)) (s : Shared) (σ : St) (H : Hp) (Q : List V → Hp → Prop), Inv X pins σ H s → t σ H Q → wpAny (model X.prog X.w) X.A (spliced (backTo pos (starEach es X.env))) (AP X pins σ Q) X.xe s
def PS (X : Cx) (st : Stmt) (t : TS) : Prop :=
  ∀ (pins : List (Addr × Obj)) (s : Shared) (σ : St) (H : Hp) (D : Ends), Inv X pins σ H s → t D σ H → wpAny (model X.prog X.w) X.A (exec st X.env) (SP X pins D) X.xe s
def PSs (X : Cx) (st : List Stmt) (t : TS) : Prop :=
  ∀ (pins : List (Addr × Obj)) (s : Shared) (σ : St) (H : Hp) (D : Ends), Inv X pins σ H s → t D σ H → wpAny (model X.prog X.w) X.A (execs st X.env) (SP X pins D) X.xe s
/-- weaken the end -/
theorem thn {α : Type} {t : Sem α} {Q Q' : α → Shared → Prop} {M : Model} {A : Around} {E : Value → Shared → Prop} {s : Shared} (h : wpAny M A t Q E s) (hQ : ∀ a s, Q a s → Q' a s) : wpAny M A t Q' E s := wpAny_mono h hQ fun _ _ x => x
end L2

namespace L2
open PySem PySem.Spec PyProof.Rows
section
variable {X : Cx}


/-! ### names and constants -/
def tVar (i : Nat) : TE := fun σ H Q => ∃ v, σ[i]? = some (some v) ∧ Q v H
def tC (v : V) : TE := fun _ H Q => Q v H
theorem pe_var {i : Nat} {x : Str} {pos : Pos} (hN : X.N[i]? = some x) (hv : Vis X.env.scope x) (hd : (x == ("__debug__" : Str)) = false := by decide) (hcd : (x == ("__classdict__" : Str)) = false := by decide) : PE X (.Name x pos) (tVar i) := by
  intro pins s σ H Q I h
  obtain ⟨v, e, h⟩ := h
  obtain ⟨m, hn, hl⟩ := I.loc
  obtain ⟨u, r, l⟩ := hl i x v hN e hv
  have fin : EP X pins σ Q u s := ⟨v, H, I, r, h⟩
  rcases l with ⟨hk, hm⟩ | ⟨hk, c, hc, hcell⟩
  · exact wpAny_Name (wpAny_loadName_local I.ok.kind hk hn hm fin) hd
  · rcases hk with hk | hk
    · exact wpAny_Name (wpAny_loadName_cell I.ok.kind hk hc hcell fin) hd
    · exact wpAny_Name (wpAny_loadName_free I.ok.kind hk hc hcell fin hcd) hd
theorem pe_int {i j pos} : PE X (.Constant (.int i) j pos) (tC (.int i)) := fun _ _ _ H _ I h => wpAny_Constant_int ⟨.int i, H, I.tok _, ⟨_, rfl⟩, h⟩
theorem pe_bl {b j pos} : PE X (.Constant (.bool b) j pos) (tC (.bl b)) := fun _ _ _ H _ I h => Constant_bool ⟨.bl b, H, I, rfl, h⟩
theorem pe_non {j pos} : PE X (.Constant .none j pos) (tC .non) := fun _ _ _ H _ I h => Constant_none ⟨.non, H, I, rfl, h⟩
theorem pe_str {x j pos} : PE X (.Constant (.str x) j pos) (tC (.str x)) := fun _ _ _ H _ I h => Calls.Constant_str ⟨.str x, H, I.tok _, ⟨_, rfl⟩, h⟩

/-- a global name of the def -/
def Gl (X : Cx) (x : Str) : Prop := X.env.kindOf x = some .globalImplicit
theorem ld_glob {E : Value → Shared → Prop} {pins : List (Addr × Obj)} {s : Shared} {σ : St} {H : Hp} {x : Str} {u : Value} {pos : Pos} {Q : Value → Shared → Prop} (I : Inv X pins σ H s) (hg : Gl X x) (hm : X.mg x = some u) (h : Q u s)
    (hd : (x == ("__debug__" : Str)) = false := by decide) : wpAny (model X.prog X.w) X.A (eval (.Name x pos) X.env) Q E s :=
  Calls.Name_function_global I.ok.kind hg (Calls.loadGlobal_global (by rw [I.ok.glob]; exact I.mod.glob.keeps I.bk) hm h) hd
theorem ld_blt {E : Value → Shared → Prop} {pins : List (Addr × Obj)} {s : Shared} {σ : St} {H : Hp} {x : Str} {u : Value} {pos : Pos} {Q : Value → Shared → Prop} (I : Inv X pins σ H s) (hg : Gl X x) (hm : X.mg x = none) (hv : bootBuiltins x = some u) (h : Q u s)
    (hn : x ≠ "__name__" := by decide) (hd : (x == ("__debug__" : Str)) = false := by decide) : wpAny (model X.prog X.w) X.A (eval (.Name x pos) X.env) Q E s := by
  obtain ⟨mb, h1, h2⟩ := I.mod.blt
  exact Calls.Name_function_global I.ok.kind hg (Calls.loadGlobal_builtin (by rw [I.ok.glob]; exact I.mod.glob.keeps I.bk) hm (by rw [I.ok.blt]; exact h1.keeps I.bk) ((h2 x hn).trans hv) h) hd
/-- a module's constant, a class, a function, as a value -/
theorem pe_glob {x : Str} {v : V} {u : Value} {pos : Pos} (hg : Gl X x) (hm : X.mg x = some u) (r : RelV v u) (hd : (x == ("__debug__" : Str)) = false := by decide) : PE X (.Name x pos) (tC v) :=
  fun _ _ _ H _ I h => ld_glob I hg hm ⟨v, H, I, r, h⟩ hd
theorem pe_bltn {x : Str} {v : V} {u : Value} {pos : Pos} (hg : Gl X x) (hm : X.mg x = none) (hv : bootBuiltins x = some u) (r : RelV v u) (hn : x ≠ "__name__" := by decide) (hd : (x == ("__debug__" : Str)) = false := by decide) : PE X (.Name x pos) (tC v) :=
  fun _ _ _ H _ I h => ld_blt I hg hm hv ⟨v, H, I, r, h⟩ hn hd

/-! ### arithmetic -/
variable {a b : Expr} {ta tb : TE} {pos : Pos}

/-! ### comparisons -/
def PC (X : Cx) (op : CmpOp) (a b : Expr) (t : TE) : Prop :=
  ∀ (pins : List (Addr × Obj)) (s : Shared) (σ : St) (H : Hp) (Q : VK), Inv X pins σ H s → t σ H Q →
    wpAny (model X.prog X.w) X.A (eval a X.env) (fun v s₁ => wpAny (model X.prog X.w) X.A (eval b X.env) (fun u s₂ => wpAny (model X.prog X.w) X.A (compareOp op v u) (EP X pins σ Q) X.xe s₂) X.xe s₁) X.xe s
theorem nobehind (b : Expr) {op : CmpOp} (h : op ≠ .In) (h2 : op ≠ .NotIn) : behindInMarks op b = false := by
  have e1 : (op == CmpOp.In) = false := by cases op <;> first | rfl | exact absurd rfl h
  have e2 : (op == CmpOp.NotIn) = false := by cases op <;> first | rfl | exact absurd rfl h2
  cases b <;> simp [behindInMarks, e1, e2]
/-- is None -/
def tIsN (ta : TE) : TE := fun σ H Q => ta σ H fun x H1 => Q (.bl (decide (x = .non))) H1
theorem RelV.none_iff {x : V} {v : Value} (r : RelV x v) : (v == Value.none) = decide (x = .non) := by
  cases x with
  | non => cases r; rfl
  | bl _ => cases r; rfl
  | int _ => obtain ⟨t, rfl⟩ := r; rfl
  | str _ => obtain ⟨t, rfl⟩ := r; rfl
  | byt _ => obtain ⟨t, rfl⟩ := r; rfl
  | flt _ => obtain ⟨t, rfl⟩ := r; rfl
  | ref _ => cases r; rfl
  | ty _ => cases r; rfl
theorem pc_isN {j pos'} (ha : PE X a ta) : PC X .Is a (.Constant .none j pos') (tIsN ta) := by
  intro pins s σ H Q I h
  refine thn (ha pins s σ H _ I h) fun v s1 ⟨x, H1, I1, r1, q1⟩ => ?_
  exact Constant_none (is_none_gen ⟨.bl _, H1, I1, by rw [r1.none_iff]; rfl, q1⟩)
/-- a comparison as a value, as a test -/
def tB (t : TE) : TT := fun σ H Q => t σ H fun x H1 => ∃ c, x = .bl c ∧ Q c H1
theorem pt_cmp {op : CmpOp} {t : TE} (h : PC X op a b t) (h1 : behindInMarks op b = false := by first | exact nobehind _ (by decide) (by decide) | rfl) : PT X (.Compare a [op] [b] pos) (tB t) := by
  intro pins s σ H Q I hw
  refine wpAny_isTrue_Compare1 (thn (h pins s σ H _ I hw) fun v s1 h1 => thn h1 fun u s2 h2 => thn h2 fun c s3 ⟨x, H1, I1, r1, q1⟩ => ?_) h1
  obtain ⟨d, rfl, q⟩ := q1
  cases r1
  exact wpAny_truthy_bool ⟨H1, I1, q⟩

/-! ### and, or, not -/
variable {tA tB' : TT} {rest : List Expr}
def tAnd (t u : TT) : TT := fun σ H Q => t σ H fun c H1 => if c = true then u σ H1 Q else Q false H1
def tOr (t u : TT) : TT := fun σ H Q => t σ H fun c H1 => if c = true then Q true H1 else u σ H1 Q
def tNot (t : TT) : TT := fun σ H Q => t σ H fun c H1 => Q (!c) H1
theorem pw_and1 (ha : PT X a tA) : PW X (.BoolOp .And [a] pos) tA := by
  intro wh pins s σ H Q I h
  refine isTrue_and (thn (ha pins s σ H Q I h) fun c s1 e => ?_)
  cases c with
  | true => exact isTrue_and_nil e
  | false => exact e
theorem pw_or1 (ha : PT X a tA) : PW X (.BoolOp .Or [a] pos) tA := by
  intro wh pins s σ H Q I h
  refine isTrue_or (thn (ha pins s σ H Q I h) fun c s1 e => ?_)
  cases c with
  | false => exact isTrue_or_nil e
  | true => exact e
theorem pw_and (ha : PT X a tA) (hb : PW X (.BoolOp .And (b :: rest) pos) tB') : PW X (.BoolOp .And (a :: b :: rest) pos) (tAnd tA tB') := by
  intro wh pins s σ H Q I h
  refine isTrue_and (thn (ha pins s σ H _ I h) fun c s1 ⟨H1, I1, q1⟩ => ?_)
  cases c with
  | true => exact hb wh pins s1 σ H1 Q I1 q1
  | false => exact ⟨H1, I1, q1⟩
theorem pw_or (ha : PT X a tA) (hb : PW X (.BoolOp .Or (b :: rest) pos) tB') : PW X (.BoolOp .Or (a :: b :: rest) pos) (tOr tA tB') := by
  intro wh pins s σ H Q I h
  refine isTrue_or (thn (ha pins s σ H _ I h) fun c s1 ⟨H1, I1, q1⟩ => ?_)
  cases c with
  | true => exact ⟨H1, I1, q1⟩
  | false => exact hb wh pins s1 σ H1 Q I1 q1
theorem pt_not (ha : PT X a tA) : PT X (.UnaryOp .Not a pos) (tNot tA) := by
  intro pins s σ H Q I h
  exact isTrue_not (ha pins s σ H (fun c H1 => Q (!c) H1) I h)
/-- .. as values (bools) -/
def tAndV (ta tb : TE) : TE := fun σ H Q => ta σ H fun x H1 => ∃ c, x = .bl c ∧ if c = true then tb σ H1 Q else Q (.bl false) H1
def tOrV (ta tb : TE) : TE := fun σ H Q => ta σ H fun x H1 => ∃ c, x = .bl c ∧ if c = true then Q (.bl true) H1 else tb σ H1 Q
def tNotV (ta : TE) : TE := fun σ H Q => ta σ H fun x H1 => ∃ c, x = .bl c ∧ Q (.bl (!c)) H1
theorem pe_one {op} {t : TE} (h : PE X a t) : PE X (.BoolOp op [a] pos) t := fun pins s σ H Q I hw => BoolOp_one (h pins s σ H Q I hw)
theorem pe_and (ha : PE X a ta) (hb : PE X (.BoolOp .And (b :: rest) pos) tb) : PE X (.BoolOp .And (a :: b :: rest) pos) (tAndV ta tb) := by
  intro pins s σ H Q I h
  refine BoolOp_and (thn (ha pins s σ H _ I h) fun v s1 ⟨x, H1, I1, r1, q1⟩ => ?_)
  obtain ⟨c, rfl, q1⟩ := q1
  cases r1
  refine wpAny_truthy_bool ?_
  cases c with
  | true => exact hb pins s1 σ H1 Q I1 q1
  | false => exact ⟨.bl false, H1, I1, rfl, q1⟩
theorem pe_or (ha : PE X a ta) (hb : PE X (.BoolOp .Or (b :: rest) pos) tb) : PE X (.BoolOp .Or (a :: b :: rest) pos) (tOrV ta tb) := by
  intro pins s σ H Q I h
  refine BoolOp_or (thn (ha pins s σ H _ I h) fun v s1 ⟨x, H1, I1, r1, q1⟩ => ?_)
  obtain ⟨c, rfl, q1⟩ := q1
  cases r1
  refine wpAny_truthy_bool ?_
  cases c with
  | false => exact hb pins s1 σ H1 Q I1 q1
  | true => exact ⟨.bl true, H1, I1, rfl, q1⟩
theorem pe_not (ha : PE X a ta) : PE X (.UnaryOp .Not a pos) (tNotV ta) := by
  intro pins s σ H Q I h
  refine UnaryOp_ (thn (ha pins s σ H _ I h) fun v s1 ⟨x, H1, I1, r1, q1⟩ => ?_)
  obtain ⟨c, rfl, q1⟩ := q1
  cases r1
  exact not_of (wpAny_truthy_bool ⟨.bl (!c), H1, I1, rfl, q1⟩)
end
end L2

namespace L2
open PySem PySem.Spec PyProof.Rows

/-! ### a list, a tuple that is read: tracked, frozen, or an object of the module -/
def SqL (K : PySem.W.Frag) (H : Hp) (a : Addr) (xs : List V) : Prop :=
  Rd H a (.lst xs) ∨
    ∃ (o : Obj) (its : Array Value) (n : Nat), K.lookup a = some o ∧ o.cls = .type "list" ∧ o.dict = none ∧ o.data = .seq its n ∧ its.size ≤ sizeLine ∧ Vals xs its.toList
def SqT (K : PySem.W.Frag) (H : Hp) (a : Addr) (xs : List V) : Prop :=
  Rd H a (.tup xs) ∨
    ∃ (o : Obj) (its : Array Value) (n : Nat), K.lookup a = some o ∧ (o.cls = .type "tuple" ∧ o.dict = none) ∧ o.data = .seq its n ∧ its.size ≤ sizeLine ∧ Vals xs its.toList
def absV : Value → Option V
  | .none => some .non
  | .bool b => some (.bl b)
  | .int i _ => some (.int i)
  | .str x _ => some (.str x)
  | .bytes b _ => some (.byt b)
  | .float b _ => some (.flt b)
  | .ref a => some (.ref a)
  | .type n => some (.ty n)
  | _ => none
theorem RelV.abs {x : V} {u : Value} (r : RelV x u) : absV u = some x := by
  cases x with
  | non => cases r; rfl
  | bl _ => cases r; rfl
  | int _ => obtain ⟨t, rfl⟩ := r; rfl
  | str _ => obtain ⟨t, rfl⟩ := r; rfl
  | byt _ => obtain ⟨t, rfl⟩ := r; rfl
  | flt _ => obtain ⟨t, rfl⟩ := r; rfl
  | ref _ => cases r; rfl
  | ty _ => cases r; rfl
theorem RelV.inj {x y : V} {u : Value} (r : RelV x u) (q : RelV y u) : x = y := Option.some.inj (r.abs.symm.trans q.abs)
theorem Vals.inj : ∀ {xs ys : List V} {us : List Value}, Vals xs us → Vals ys us → xs = ys
  | _, _, _, .nil, .nil => rfl
  | _, _, _, .cons r t, .cons r' t' => by rw [r.inj r', Vals.inj t t']
section
variable {X : Cx} {pins : List (Addr × Obj)} {σ : St} {H : Hp} {s : Shared} {a : Addr} {xs ys : List V}
theorem SqL.of {K : PySem.W.Frag} (h : H a = some (.lst xs)) : SqL K H a xs := .inl (.inl h)
theorem SqT.of {K : PySem.W.Frag} (h : H a = some (.tup xs)) : SqT K H a xs := .inl (.inl h)
theorem Inv.list (I : Inv X pins σ H s) (h : SqL X.K H a xs) : ∃ its : List Value, Vals xs its ∧ PlainL s.heap a its.toArray ∧ xs.length ≤ sizeLine := by
  rcases h with h | ⟨o, its, n, hk, hc, hd, hs, hz, r⟩
  · obtain ⟨z, its, n, r, e⟩ := h.ok I.hok
    exact ⟨its, r, ⟨_, n, e, rfl, rfl, rfl⟩, z⟩
  · refine ⟨its.toList, r, ⟨o, n, I.kIn a o hk, hc, hd, by simpa using hs⟩, ?_⟩
    have e := r.length
    simp only [Array.length_toList] at e
    omega
theorem Inv.tuple (I : Inv X pins σ H s) (h : SqT X.K H a xs) : ∃ its : List Value, Vals xs its ∧ IsTup s.heap a its.toArray ∧ xs.length ≤ sizeLine := by
  rcases h with h | ⟨o, its, n, hk, hc, hs, hz, r⟩
  · obtain ⟨z, its, r, p⟩ := h.ok I.hok
    exact ⟨its, r, p.is, z⟩
  · refine ⟨its.toList, r, ⟨o, I.kIn a o hk, hc.1, n, by simpa using hs⟩, ?_⟩
    have e := r.length
    simp only [Array.length_toList] at e
    omega
theorem Inv.list_inj (I : Inv X pins σ H s) (h : SqL X.K H a xs) (h' : SqL X.K H a ys) : xs = ys := by
  obtain ⟨its, r, ⟨o, n, e, _, _, d⟩, _⟩ := I.list h
  obtain ⟨its', r', ⟨o', n', e', _, _, d'⟩, _⟩ := I.list h'
  rw [e] at e'; cases e'
  rw [d] at d'
  injection d' with d1 _
  have : its = its' := by simpa using congrArg Array.toList d1
  subst this
  exact r.inj r'
theorem Inv.tuple_inj (I : Inv X pins σ H s) (h : SqT X.K H a xs) (h' : SqT X.K H a ys) : xs = ys := by
  obtain ⟨its, r, ⟨o, e, _, n, d⟩, _⟩ := I.tuple h
  obtain ⟨its', r', ⟨o', e', _, n', d'⟩, _⟩ := I.tuple h'
  rw [e] at e'; cases e'
  rw [d] at d'
  injection d' with d1 _
  have : its = its' := by simpa using congrArg Array.toList d1
  subst this
  exact r.inj r'
end

/-! ### another wish about exceptions -/
abbrev Cx.wish (X : Cx) (E : Value → Shared → Prop) : Cx := { X with xe := E }
/-- no exception leaves -/
abbrev Cx.nox (X : Cx) : Cx := X.wish fun _ _ => False
theorem Cx.Ok.wish {X : Cx} (ok : X.Ok) (E : Value → Shared → Prop) : (X.wish E).Ok :=
  ⟨ok.mod, ok.kind, ok.glob, ok.blt, ok.above, ok.inj, ok.has, ok.cab, ok.hd, ok.frames, ok.stk, ok.exf, ok.bs, ok.bsz, ok.noex, ok.exfs, ok.funs, ok.frf⟩
theorem Cx.Ok.unwish {X : Cx} {E : Value → Shared → Prop} (ok : (X.wish E).Ok) : X.Ok :=
  ⟨ok.mod, ok.kind, ok.glob, ok.blt, ok.above, ok.inj, ok.has, ok.cab, ok.hd, ok.frames, ok.stk, ok.exf, ok.bs, ok.bsz, ok.noex, ok.exfs, ok.funs, ok.frf⟩
section
variable {X : Cx} {pins : List (Addr × Obj)} {σ : St} {H : Hp} {s : Shared} {E : Value → Shared → Prop}
theorem Inv.wish (I : Inv X pins σ H s) (E : Value → Shared → Prop) : Inv (X.wish E) pins σ H s := ⟨I.ok.wish E, I.os, I.bare, I.base, I.loc, I.cell, I.free, I.freeC, I.pin, I.hok, I.len⟩
theorem Inv.unwish (I : Inv (X.wish E) pins σ H s) : Inv X pins σ H s := ⟨I.ok.unwish, I.os, I.bare, I.base, I.loc, I.cell, I.free, I.freeC, I.pin, I.hok, I.len⟩
theorem SP.unwish {D : Ends} {f : Flow} {s' : Shared} (h : SP (X.wish E) pins D f s') : SP X pins D f s' := by
  cases f with
  | next => obtain ⟨σ', H', I, q⟩ := h; exact ⟨σ', H', I.unwish, q⟩
  | brk => obtain ⟨σ', H', I, q⟩ := h; exact ⟨σ', H', I.unwish, q⟩
  | cont => obtain ⟨σ', H', I, q⟩ := h; exact ⟨σ', H', I.unwish, q⟩
  | ret u => obtain ⟨v, σ', H', I, r, q⟩ := h; exact ⟨v, σ', H', I.unwish, r, q⟩
theorem PE.nox {e : Expr} {t : TE} (h : PE X.nox e t) : PE X e t := fun pins s σ H Q I hw =>
  wpAny_mono (h pins s σ H Q (I.wish _) hw) (fun _ _ ⟨v, H', I', r, q⟩ => ⟨v, H', I'.unwish, r, q⟩) fun _ _ z => False.elim z
theorem PT.nox {e : Expr} {t : TT} (h : PT X.nox e t) : PT X e t := fun pins s σ H Q I hw =>
  wpAny_mono (h pins s σ H Q (I.wish _) hw) (fun _ _ ⟨H', I', q⟩ => ⟨H', I'.unwish, q⟩) fun _ _ z => False.elim z
theorem PSs.nox {st : List Stmt} {t : TS} (h : PSs X.nox st t) : PSs X st t := fun pins s σ H D I hw =>
  wpAny_mono (h pins s σ H D (I.wish _) hw) (fun _ _ q => q.unwish) fun _ _ z => False.elim z
end

/-! ### blocks and small statements -/
section
variable {X : Cx} {st : Stmt} {rest : List Stmt} {t u : TS} {e : Expr} {te : TE} {pos : Pos}
def tNext : TS := fun D σ H => D.nx σ H
def tSeq (t u : TS) : TS := fun D σ H => t { D with nx := u D } σ H
theorem pss_nil : PSs X [] tNext := fun _ _ σ H _ I h => wpAny_execs_nil ⟨σ, H, I, h⟩
theorem pss_cons (h1 : PS X st t) (h2 : PSs X rest u) : PSs X (st :: rest) (tSeq t u) := by
  intro pins s σ H D I h
  refine wpAny_execs_cons (thn (h1 pins s σ H { D with nx := u D } I h) fun f s1 q => ?_)
  cases f with
  | next =>
    obtain ⟨σ', H', I', q⟩ := q
    exact h2 pins s1 σ' H' D I' q
  | ret v => exact q
  | brk => exact q
  | cont => exact q
theorem pss_one (h1 : PS X st t) : PSs X [st] t := by
  intro pins s σ H D I h
  refine wpAny_execs_cons (thn (h1 pins s σ H D I h) fun f s1 q => ?_)
  cases f with
  | next => exact wpAny_execs_nil q
  | ret v => exact q
  | brk => exact q
  | cont => exact q
/-- in a def's body nothing is shown -/
theorem Inv.quiet {pins : List (Addr × Obj)} {σ : St} {H : Hp} {s : Shared} (I : Inv X pins σ H s) : interactive X.env = false := by simp [interactive, I.ok.kind]
/-- an expression whose value is dropped -/
def tDrop (te : TE) : TS := fun D σ H => te σ H fun _ H1 => D.nx σ H1
theorem ps_expr (he : PE X e te) (hs : swapsWith e none pos.line X.env = pure false := by rfl) : PS X (.Expr e pos) (tDrop te) := by
  intro pins s σ H D I h
  exact wpAny_Expr_any (thn (he pins s σ H _ I h) fun v s1 ⟨x, H1, I1, r1, q1⟩ => ⟨σ, H1, I1, q1⟩) I.quiet hs
def tRet (te : TE) : TS := fun D σ H => te σ H D.rt
theorem ps_ret (he : PE X e te) : PS X (.Return (some e) pos) (tRet te) := by
  intro pins s σ H D I h
  exact wpAny_Return_some (thn (he pins s σ H _ I h) fun v s1 ⟨x, H1, I1, r1, q1⟩ => ⟨x, σ, H1, I1, r1, q1⟩)
def tIfS (c : TT) (t u : TS) : TS := fun D σ H => c σ H fun b H1 => if b = true then t D σ H1 else u D σ H1
theorem ps_if {c : Expr} {a b : List Stmt} {tc : TT} (hc : PT X c tc) (ha : PSs X a t) (hb : PSs X b u) : PS X (.If c a b pos) (tIfS tc t u) := by
  intro pins s σ H D I h
  refine wpAny_If (thn (hc pins s σ H _ I h) fun d s1 ⟨H1, I1, q1⟩ => ?_)
  cases d with
  | true => exact ha pins s1 σ H1 D I1 q1
  | false => exact hb pins s1 σ H1 D I1 q1
end

/-! ### targets -/
abbrev TG := V → St → Hp → (St → Hp → Prop) → Prop
def PG (X : Cx) (target : Expr) (t : TG) : Prop :=
  ∀ (pins : List (Addr × Obj)) (s : Shared) (σ : St) (H : Hp) (v : V) (u : Value) (Q : St → Hp → Prop), Inv X pins σ H s → RelV v u → t v σ H Q →
    wpAny (model X.prog X.w) X.A (assign target X.env u) (fun _ s' => ∃ σ' H', Inv X pins σ' H' s' ∧ Q σ' H') X.xe s
section
variable {X : Cx} {pos : Pos}
def gName (i : Nat) : TG := fun v σ H Q => Q (σ.set i (some v)) H
theorem pg_name {i : Nat} {x : Str} (hN : X.N.Nodup) (hi : X.N[i]? = some x) (hx : Loc X.env.scope x) (hf : X.fn x = true ∨ X.env.scope.names.lookup x = some .local := by first | exact .inl rfl | exact .inr rfl | assumption) : PG X (.Name x pos) (gName i) := by
  intro pins s σ H v u Q I r h
  exact wpAny_assign_Name (store_ok I hN hi hx r (fun s' I' => ⟨_, H, I', h⟩) hf)
/-- target = value -/
def tAsg (te : TE) (g : TG) : TS := fun D σ H => te σ H fun x H1 => g x σ H1 D.nx
/-- name = value -/
theorem ps_set {i : Nat} {x : Str} {e : Expr} {te : TE} {pos' : Pos} (hN : X.N.Nodup) (hi : X.N[i]? = some x) (hx : Loc X.env.scope x) (he : PE X e te) (hs : swapsWith e (some (.Name x pos')) pos.line X.env = pure false := by rfl) (hf : X.fn x = true ∨ X.env.scope.names.lookup x = some .local := by first | exact .inl rfl | exact .inr rfl | assumption) :
    PS X (.Assign [.Name x pos'] e pos) (tAsg te (gName i)) := by
  intro pins s σ H D I h
  refine wpAny_Assign_Name (thn (he pins s σ H _ I h) fun v s1 ⟨y, H1, I1, r1, q1⟩ => ?_) hs
  exact store_ok I1 hN hi hx r1 (fun s2 I2 => ⟨_, H1, I2, q1⟩) hf
end

/-! ### while -/
section
variable {X : Cx} {pos : Pos}
end

/-! ### what a loop or a comprehension walks -/
/-- at turn i: it yields x (the heap may grow), or it stops -/
structure It where
  go : Nat → Hp → Prop
  yld : Nat → Hp → V → Hp → Prop
  stop : Nat → Hp → Prop
/-- the iterator's own objects may turn: they are not the frame's, not pinned, younger than the entry (or a comprehension's own) -/
def FpOk (X : Cx) (pins : List (Addr × Obj)) (H : Hp) (b : Addr) : Prop :=
  H b = none ∧ b ≠ X.env.locals ∧ b ∉ X.fs ∧ (b ∈ X.ex ∨ X.s₀.heap.objs.size ≤ b) ∧ (∀ x c, X.env.cells.lookup x = some c → c ≠ b) ∧ ∀ p ∈ X.pn ++ pins, p.1 ≠ b
theorem Inv.fpOk {X : Cx} {pins : List (Addr × Obj)} {σ : St} {H H' : Hp} {s : Shared} {b : Addr} (I : Inv X pins σ H s) (hb : s.heap.objs.size ≤ b) (hn : H' b = none) : FpOk X pins H' b := by
  refine ⟨hn, Nat.ne_of_gt (Nat.lt_of_lt_of_le I.lt hb), I.nofs hb, .inr (Nat.le_trans I.sz hb), fun x c e z => ?_, fun p hp z => ?_⟩
  · obtain ⟨v, q⟩ := I.cell x c e
    exact absurd (Nat.lt_of_lt_of_le q.lt (by rw [z]; exact hb)) (Nat.lt_irrefl _)
  · exact absurd (Nat.lt_of_lt_of_le (Heap.lt_size (I.pin p hp).1) (by rw [z]; exact hb)) (Nat.lt_irrefl _)
structure Turn (P : Program) (w : World) (K : PySem.W.Frag) (tg : Expr) (J : It) (fp : List Addr) (it : Addr) (tn : Nat → Heap → Prop) : Prop where
  mem : it ∈ fp
  obj : ∀ i h, tn i h → ∀ b ∈ fp, ∃ o, h.get? b = some o ∧ ∀ v, o.data ≠ .cell v
  keep : ∀ i h h', tn i h → (∀ b ∈ fp, ∀ o, h.get? b = some o → h'.get? b = some o) → tn i h'
  item : ∀ (X : Cx), X.prog = P → X.w = w → X.K = K → X.calm = true → ∀ (i : Nat) (pins : List (Addr × Obj)) (s : Shared) (σ : St) (H : Hp) (E : Value → Shared → Prop), Inv X pins σ H s → (∀ b ∈ fp, FpOk X pins H b) → tn i s.heap → J.go i H →
    wpAny (model P w) X.A (pyNext (.ref it)) (fun r s1 => ∃ u, r = some u ∧
      wpAny (model P w) X.A (letOwnedTupleGo tg (.ref it) u) (fun _ s2 => ∃ x H', Inv X pins σ H' s2 ∧ RelV x u ∧ J.yld i H x H' ∧ tn (i + 1) s2.heap ∧ ∀ b ∈ fp, H' b = none) E s1) E s
  done : ∀ (X : Cx), X.prog = P → X.w = w → X.K = K → X.calm = true → ∀ (i : Nat) (pins : List (Addr × Obj)) (s : Shared) (σ : St) (H : Hp) (E : Value → Shared → Prop), Inv X pins σ H s → (∀ b ∈ fp, FpOk X pins H b) → tn i s.heap → J.stop i H →
    wpAny (model P w) X.A (pyNext (.ref it)) (fun r s1 => r = none ∧ Inv X pins σ H s1) E s
  self : ∀ (A : Around) (i : Nat) (s : Shared) (Q : Value → Shared → Prop) (E : Value → Shared → Prop), tn i s.heap → Q (.ref it) s → wpAny (model P w) A (pyIter (.ref it)) Q E s
abbrev TI := St → Hp → (It → Hp → Prop) → Prop
/-- an iterator has come -/
def PIE (X : Cx) (pins : List (Addr × Obj)) (σ : St) (tg : Expr) (R : It → Hp → Prop) (itv : Value) (s2 : Shared) : Prop :=
  ∃ (it : Addr) (fp : List Addr) (tn : Nat → Heap → Prop) (J : It) (H' : Hp), itv = .ref it ∧ Inv X pins σ H' s2 ∧ Turn X.prog X.w X.K tg J fp it tn ∧ tn 0 s2.heap ∧ (∀ b ∈ fp, FpOk X pins H' b) ∧ R J H'
def PI (X : Cx) (tg iter : Expr) (wi : TI) : Prop :=
  ∀ (pins : List (Addr × Obj)) (s : Shared) (σ : St) (H : Hp) (R : It → Hp → Prop), Inv X pins σ H s → wi σ H R →
    wpAny (model X.prog X.w) X.A (eval iter X.env) (fun v s1 => wpAny (model X.prog X.w) X.A (pyIter v) (PIE X pins σ tg R) X.xe s1) X.xe s

/-- the step ahead of the store is nothing for an iterator that keeps no tuple -/
theorem go_of {M : Model} {A : Around} {E : Value → Shared → Prop} {s : Shared} {tg : Expr} {it : Addr} {u : Value} {o : Obj} {n : String} {vs : Array Value} {Q : Unit → Shared → Prop} (ho : s.heap.get? it = some o) (hc : o.cls = .type n) (hd : o.data = .fields vs)
    (hn : ["enumerate", "zip", "dict_itemiterator", "dict_reverseitemiterator", "odict_iterator", "itertools.zip_longest", "itertools.pairwise"].contains n = false) (hQ : Q () s) : wpAny M A (letOwnedTupleGo tg (.ref it) u) Q E s := by
  unfold letOwnedTupleGo
  cases tg <;> first
    | exact wpAny_pure hQ
    | (cases u <;> first
        | exact wpAny_pure hQ
        | (refine wpAny_bind (wpAny_load ho ?_)
           rw [hc, hd]
           show wpAny M A (if (["enumerate", "zip", "dict_itemiterator", "dict_reverseitemiterator", "odict_iterator", "itertools.zip_longest", "itertools.pairwise"].contains n && vs[0]? == some (rawInt _)) = true then _ else _) Q E s
           rw [if_neg (by intro h; rw [hn, Bool.false_and] at h; cases h)]
           exact wpAny_pure hQ))

/-- the list at a, as it stands at each turn (a loop may append to it) -/
def Itl (K : PySem.W.Frag) (a : Addr) : It :=
  ⟨fun i H => ∃ xs x, SqL K H a xs ∧ xs[i]? = some x, fun i H x H' => H' = H ∧ ∀ xs, SqL K H a xs → xs[i]? = some x, fun i H => ∃ xs, SqL K H a xs ∧ xs.length ≤ i⟩
def Itt (K : PySem.W.Frag) (a : Addr) : It :=
  ⟨fun i H => ∃ xs x, SqT K H a xs ∧ xs[i]? = some x, fun i H x H' => H' = H ∧ ∀ xs, SqT K H a xs → xs[i]? = some x, fun i H => ∃ xs, SqT K H a xs ∧ xs.length ≤ i⟩
/-- lo, lo + 1, .. (n of them) -/
def Itr (lo : Int) (n : Nat) : It := ⟨fun i _ => i < n, fun i H x H' => H' = H ∧ x = .int (lo + i), fun i _ => n ≤ i⟩
theorem turn_list {P : Program} {w : World} {K : PySem.W.Frag} {tg : Expr} (a it : Addr) : Turn P w K tg (Itl K a) [it] it (fun i h => h.IsListIter it a i) where
  mem := by simp
  obj := fun i h st b hb => by
    have e : b = it := by simpa using hb
    subst e
    obtain ⟨o, e, c, d⟩ := st
    exact ⟨o, e, fun v z => by rw [d] at z; cases z⟩
  keep := fun i h h' st k => st.at fun o e => k it (by simp) o e
  item := by
    intro X hP hw hK hc i pins s σ H E I hf st hg
    subst hP hw hK
    obtain ⟨xs, x, hq, hx⟩ := hg
    obtain ⟨its, rv, p, hz⟩ := I.list hq
    obtain ⟨u, hu, ru⟩ := rv.get hx
    obtain ⟨f0, f1, f2, f3, f4, f5⟩ := hf it (by simp)
    refine wpAny_pyNext_list_item st p.isList (x := u) (by simpa using hu) fun h' st' sb => ?_
    have I1 : Inv X pins σ H { s with heap := h' } := I.turned (t' := s.toks) (fun b o hb e => (sb.2 b hb).trans e) f0 f1 f3 f4 f5
    obtain ⟨o, e, c, d⟩ := id st'
    exact ⟨u, rfl, go_of (s := { s with heap := h' }) e c d (by decide) ⟨x, H, I1, ru, ⟨rfl, fun ys hy => by rw [I.list_inj hy hq]; exact hx⟩, st', fun b hb => (hf b hb).1⟩⟩
  done := by
    intro X hP hw hK hc i pins s σ H E I hf st hg
    subst hP hw hK
    obtain ⟨xs, hq, hx⟩ := hg
    obtain ⟨its, rv, p, hz⟩ := I.list hq
    obtain ⟨f0, f1, f2, f3, f4, f5⟩ := hf it (by simp)
    have hl := rv.length
    exact wpAny_pyNext_list_end (I.ok.hd hc) st p.isList (by simp; omega) fun h' eb => ⟨rfl, I.turned (t' := s.toks) (fun b o hb e => eb b o hb e) f0 f1 f3 f4 f5⟩
  self := fun _ _ _ _ _ st h => wpAny_pyIter_listiter st h
theorem turn_tuple {P : Program} {w : World} {K : PySem.W.Frag} {tg : Expr} (a it : Addr) : Turn P w K tg (Itt K a) [it] it (fun i h => h.IsTupleIter it a i) where
  mem := by simp
  obj := fun i h st b hb => by
    have e : b = it := by simpa using hb
    subst e
    obtain ⟨o, e, c, d⟩ := st
    exact ⟨o, e, fun v z => by rw [d] at z; cases z⟩
  keep := fun i h h' st k => st.at fun o e => k it (by simp) o e
  item := by
    intro X hP hw hK hc i pins s σ H E I hf st hg
    subst hP hw hK
    obtain ⟨xs, x, hq, hx⟩ := hg
    obtain ⟨its, rv, p, hz⟩ := I.tuple hq
    obtain ⟨u, hu, ru⟩ := rv.get hx
    obtain ⟨f0, f1, f2, f3, f4, f5⟩ := hf it (by simp)
    refine wpAny_pyNext_tuple_item st (show s.heap.IsTuple a its.toArray from p) (x := u) (by simpa using hu) fun h' st' sb => ?_
    have I1 : Inv X pins σ H { s with heap := h' } := I.turned (t' := s.toks) (fun b o hb e => (sb.2 b hb).trans e) f0 f1 f3 f4 f5
    obtain ⟨o, e, c, d⟩ := id st'
    exact ⟨u, rfl, go_of (s := { s with heap := h' }) e c d (by decide) ⟨x, H, I1, ru, ⟨rfl, fun ys hy => by rw [I.tuple_inj hy hq]; exact hx⟩, st', fun b hb => (hf b hb).1⟩⟩
  done := by
    intro X hP hw hK hc i pins s σ H E I hf st hg
    subst hP hw hK
    obtain ⟨xs, hq, hx⟩ := hg
    obtain ⟨its, rv, p, hz⟩ := I.tuple hq
    obtain ⟨f0, f1, f2, f3, f4, f5⟩ := hf it (by simp)
    have hl := rv.length
    exact wpAny_pyNext_tuple_end (I.ok.hd hc) st (show s.heap.IsTuple a its.toArray from p) (by simp; omega) fun h' eb => ⟨rfl, I.turned (t' := s.toks) (fun b o hb e => eb b o hb e) f0 f1 f3 f4 f5⟩
  self := fun _ _ _ _ _ st h => wpAny_pyIter_tupleiter st h
theorem turn_range {P : Program} {w : World} {K : PySem.W.Frag} {tg : Expr} (it : Addr) (lo : Int) (n : Nat) : Turn P w K tg (Itr lo n) [it] it (fun i h => IsRangeIter h it (lo + (i : Nat) * 1) ((n : Int) - (i : Nat)) 1) where
  mem := by simp
  obj := fun i h st b hb => by
    have e : b = it := by simpa using hb
    subst e
    exact ⟨_, st, fun v z => by
      have z' : Data.fields _ = Data.cell v := z
      cases z'⟩
  keep := fun i h h' st k => k it (by simp) _ st
  item := by
    intro X hP hw hK hc i pins s σ H E I hf st hg
    subst hP hw hK
    obtain ⟨f0, f1, f2, f3, f4, f5⟩ := hf it (by simp)
    have W := Walks.range (prog := X.prog) (w := X.w) (I.ok.hd hc) it lo 1 n
    refine W.item i s _ _ hg st fun v h' tk hv st' kk => ?_
    obtain ⟨t, rfl⟩ := hv
    have I1 : Inv X pins σ H { s with heap := h', toks := tk } := I.turned (fun b o hb e => kk b o (by simpa using hb) e) f0 f1 f3 f4 f5
    refine ⟨_, rfl, go_of (s := { s with heap := h', toks := tk }) (n := "range_iterator") st' rfl rfl (by decide) ⟨.int (lo + i), H, I1, ⟨t, ?_⟩, ⟨rfl, rfl⟩, st', fun b hb => (hf b hb).1⟩⟩
    rw [Int.mul_one]
  done := by
    intro X hP hw hK hc i pins s σ H E I hf st hg
    subst hP hw hK
    obtain ⟨f0, f1, f2, f3, f4, f5⟩ := hf it (by simp)
    exact wpAny_pyNext_range_end (I.ok.hd hc) st (by have : n ≤ i := hg; omega) fun h' eb => ⟨rfl, I.turned (t' := s.toks) (fun b o hb e => eb b o hb e) f0 f1 f3 f4 f5⟩
  self := fun _ _ _ _ _ st h => wpAny_pyIter_rangeiter st h
end L2

namespace L2
open PySem PySem.Spec PyProof.Rows
section
variable {X : Cx} {tg : Expr}
/-- a range object just made, walked -/
theorem range_it {pins : List (Addr × Obj)} {σ : St} {H : Hp} {s : Shared} {R : It → Hp → Prop} {E : Value → Shared → Prop} {lo hi : Int} {t u v : Tok} {tk : Nat} (I : Inv X pins σ H s) (h1 : -(2 ^ 62) ≤ lo) (h2 : lo < 2 ^ 62) (h3 : -(2 ^ 62) ≤ hi) (h4 : hi < 2 ^ 62)
    (q : R (Itr lo (hi - lo).toNat) H) : wpAny (model X.prog X.w) X.A (pyIter (.ref s.heap.objs.size)) (PIE X pins σ tg R) E { s with heap := s.heap.push { cls := .type "range", data := .fields #[.int lo t, .int hi u, .int 1 v] }, toks := tk } := by
  refine wpAny_pyIter_range (IsRange.new ..) (small_one h1 h2 h3 h4) ?_
  have I1 : Inv X pins σ H { s with heap := s.heap.push { cls := .type "range", data := .fields #[.int lo t, .int hi u, .int 1 v] }, toks := tk } := I.kept fun b o e => Heap.get?_push_of_some _ e
  refine ⟨(s.heap.push { cls := .type "range", data := .fields #[.int lo t, .int hi u, .int 1 v] }).objs.size, [(s.heap.push { cls := .type "range", data := .fields #[.int lo t, .int hi u, .int 1 v] }).objs.size], _, _, H, rfl,
    I1.kept (t' := tk) fun b o e => Heap.get?_push_of_some _ e, turn_range _ lo (hi - lo).toNat, ?_, fun b hb => ?_, q⟩
  · have e1 : lo + ((0 : Nat) : Int) * 1 = lo := by simp
    have e2 : (((hi - lo).toNat : Nat) : Int) - ((0 : Nat) : Int) = Builtin.Range.rangeSize lo hi 1 := by rw [rangeSize_one]; split <;> omega
    show IsRangeIter _ _ (lo + ((0 : Nat) : Int) * 1) ((((hi - lo).toNat : Nat) : Int) - ((0 : Nat) : Int)) 1
    rw [e1, e2]
    exact Heap.get?_push_size _ rfl
  · have e : b = (s.heap.push { cls := .type "range", data := .fields #[.int lo t, .int hi u, .int 1 v] }).objs.size := by simpa using hb
    subst e
    exact I1.fpOk (Nat.le_refl _) (I1.hok.fresh (Nat.le_refl _))
def iRng1 (ta : TA) : TI := fun σ H R => ta σ H fun vs H1 => ∃ j : Int, vs = [.int j] ∧ -(2 ^ 62) ≤ j ∧ j < 2 ^ 62 ∧ R (Itr 0 j.toNat) H1
theorem pi_range1 {a : Expr} {ta : TA} {p pos : Pos} (hg : Gl X "range") (hm : X.mg "range" = none) (ha : PA X [a] ta) (hs : starEach [a] X.env = [(false, eval a X.env)] := by rfl) : PI X tg (.Call (.Name "range" p) [a] [] pos) (iRng1 ta) := by
  intro pins s σ H R I h
  refine Call_ (ld_blt I hg hm boot_range (PyProof.Rows.callWith_type1 (thn (ha pos pins s σ H _ I h) fun us s1 ⟨vs, H1, I1, r1, q1⟩ => ?_) hs rfl))
  obtain ⟨j, e, q1, q2, q⟩ := q1
  subst e
  cases r1 with
  | cons r rr =>
    cases rr
    obtain ⟨t, rfl⟩ := r
    exact call_range_1 (range_it I1 (by omega) (by omega) q1 q2 (by simpa using q))

/-! ### for -/
/-- W: the invariant by the turn and a measure; N: what the body is to reach -/
def tFor (wi : TI) (g : TG) (tb : TS) : TS := fun D σ H => wi σ H fun J H1 => ∃ W : Nat → Nat → St → Hp → Prop, (∃ m, W 0 m σ H1) ∧ ∀ i m σ H, W i m σ H →
  (J.stop i H ∧ D.nx σ H) ∨ (J.go i H ∧ ∃ N : St → Hp → Prop, (∀ σ' H', N σ' H' → ∃ m', m' < m ∧ W (i + 1) m' σ' H') ∧ ∀ x H', J.yld i H x H' → g x σ H' fun σ2 H2 => tb { D with nx := N, ct := N, bk := D.nx } σ2 H2)
/-- the records at fp as they stand -/
def pinsAt (fp : List Addr) (h : Heap) : List (Addr × Obj) := fp.filterMap fun b => (h.get? b).map fun o => (b, o)
theorem mem_pinsAt {fp : List Addr} {h : Heap} {b : Addr} {o : Obj} (hb : b ∈ fp) (e : h.get? b = some o) : (b, o) ∈ pinsAt fp h := List.mem_filterMap.mpr ⟨b, hb, by rw [e]; rfl⟩
theorem of_pinsAt {fp : List Addr} {h : Heap} {p : Addr × Obj} (hp : p ∈ pinsAt fp h) : p.1 ∈ fp ∧ h.get? p.1 = some p.2 := by
  obtain ⟨b, hb, e⟩ := List.mem_filterMap.mp hp
  cases q : h.get? b with
  | none => rw [q] at e; cases e
  | some o =>
    rw [q] at e
    have e' : (b, o) = p := Option.some.inj e
    subst e'
    exact ⟨hb, q⟩
theorem Inv.pinned {pins : List (Addr × Obj)} {σ : St} {H : Hp} {s : Shared} {fp : List Addr} (I : Inv X pins σ H s) (hf : ∀ b ∈ fp, FpOk X pins H b) (ho : ∀ b ∈ fp, ∃ o, s.heap.get? b = some o ∧ ∀ v, o.data ≠ .cell v) : Inv X (pins ++ pinsAt fp s.heap) σ H s :=
  I.pins_of fun p hp => (List.mem_append.mp hp).elim (fun z => I.pin p (List.mem_append_right _ z)) fun z => by
    obtain ⟨hb, e⟩ := of_pinsAt z
    obtain ⟨f0, f1, f2, _⟩ := hf p.1 hb
    obtain ⟨o, e', d⟩ := ho p.1 hb
    rw [e] at e'; cases e'
    exact ⟨e, f0, f1, f2, d⟩
theorem Inv.unpinned {pins pl : List (Addr × Obj)} {σ : St} {H : Hp} {s : Shared} (I : Inv X (pins ++ pl) σ H s) : Inv X pins σ H s := I.pins_of fun p hp => I.pin p (List.mem_append_right _ (List.mem_append_left _ hp))
theorem ps_for {iter : Expr} {body : List Stmt} {wi : TI} {g : TG} {tb : TS} {pos : Pos} (hp : PassesOwn (model X.prog X.w) X.A X.env X.xe) (hc : X.calm = true) (hi : PI X tg iter wi) (hg : PG X tg g) (hb : PSs X body tb)
    (hs : ∀ x, foldedSetIterable iter X.env x = pure x := by intro _; rfl) : PS X (.For tg iter body [] pos) (tFor wi g tb) := by
  intro pins s σ H D I h
  refine wpAny_For (thn (hi pins s σ H _ I h) fun v s1 h1 => thn h1 fun itv s2 h2 => ?_) hs
  obtain ⟨it, fp, tn, J, H2, e, I2, T, st2, f2, W, ⟨m0, w0⟩, turn⟩ := h2
  subst e
  -- what stays true of the iterator's objects through the loop
  have stat : ∀ {H' : Hp}, (∀ b ∈ fp, H' b = none) → ∀ b ∈ fp, FpOk X pins H' b := fun hn b hb => ⟨hn b hb, (f2 b hb).2⟩
  refine codeAny_forLoop_any (fun n s' => ∃ i σ' H', Inv X pins σ' H' s' ∧ tn i s'.heap ∧ (∀ b ∈ fp, H' b = none) ∧ W i n σ' H') ?_ m0 ⟨0, σ, H2, I2, st2, fun b hb => (f2 b hb).1, w0⟩
  rintro n s3 ⟨i, σ3, H3, I3, st3, fr3, w3⟩
  rcases turn i n σ3 H3 w3 with ⟨stop, qn⟩ | ⟨go, N, hN, step⟩
  · refine wpAny_passesOwn hp (thn (T.done X rfl rfl rfl hc i pins s3 σ3 H3 X.xe I3 (stat fr3) st3 stop) fun r s4 ⟨hr, I4⟩ => ?_)
    subst hr
    exact wpAny_execs_nil ⟨σ3, H3, I4, qn⟩
  · refine wpAny_passesOwn hp (thn (T.item X rfl rfl rfl hc i pins s3 σ3 H3 X.xe I3 (stat fr3) st3 go) fun r s4 ⟨u, hr, h4⟩ => ?_)
    subst hr
    refine wpAny_passesOwn hp (thn h4 fun _ s5 ⟨x, H5, I5, r5, y5, st5, fr5⟩ => ?_)
    have I5' := I5.pinned (stat fr5) (T.obj _ _ st5)
    refine wpAny_passesOwn hp (thn (hg _ s5 σ3 H5 x u _ I5' r5 (step x H5 y5)) fun _ s6 ⟨σ6, H6, I6, q6⟩ => ?_)
    refine wpAny_passesOwn hp (thn (hb _ s6 σ6 H6 _ I6 q6) fun f s7 q7 => ?_)
    have again : ∀ {σ7 : St} {H7 : Hp}, Inv X (pins ++ pinsAt fp s5.heap) σ7 H7 s7 → N σ7 H7 → ∃ m, m < n ∧ ∃ i σ' H', Inv X pins σ' H' s7 ∧ tn i s7.heap ∧ (∀ b ∈ fp, H' b = none) ∧ W i m σ' H' := fun {σ7 H7} I7 n7 => by
      obtain ⟨m', hm, w7⟩ := hN σ7 H7 n7
      refine ⟨m', hm, i + 1, σ7, H7, I7.unpinned, T.keep _ _ _ st5 fun b hb o e => (I7.pin (b, o) (List.mem_append_right _ (List.mem_append_right _ (mem_pinsAt hb e)))).1, fun b hb => ?_, w7⟩
      obtain ⟨o, e, d⟩ := T.obj _ _ st5 b hb
      exact (I7.pin (b, o) (List.mem_append_right _ (List.mem_append_right _ (mem_pinsAt hb e)))).2.1
    cases f with
    | next => obtain ⟨σ7, H7, I7, n7⟩ := q7; exact again I7 n7
    | cont => obtain ⟨σ7, H7, I7, n7⟩ := q7; exact again I7 n7
    | brk => obtain ⟨σ7, H7, I7, q7⟩ := q7; exact ⟨σ7, H7, I7.unpinned, q7⟩
    | ret v => obtain ⟨x7, σ7, H7, I7, r7, q7⟩ := q7; exact ⟨x7, σ7, H7, I7.unpinned, r7, q7⟩
end

/-! ### the forms one uses -/
end L2

namespace L2
open PySem PySem.Spec PyProof.Rows

abbrev R2 := V → V → Hp → VK → Prop
/-- a two-place operation on values: f is binaryOp op, inplaceOp op or compareOp op -/
def OpR (X : Cx) (f : Value → Value → Sem Value) (r : R2) : Prop :=
  ∀ (pins : List (Addr × Obj)) (s : Shared) (σ : St) (H : Hp) (x y : V) (v u : Value) (Q : VK), Inv X pins σ H s → RelV x v → RelV y u → r x y H Q →
    wpAny (model X.prog X.w) X.A (f v u) (EP X pins σ Q) X.xe s
/-- a call of a value that is known (a builtin, a type) with values -/
def CallR (X : Cx) (f : Value) (r : List V → Hp → VK → Prop) : Prop :=
  ∀ (pins : List (Addr × Obj)) (s : Shared) (σ : St) (H : Hp) (xs : List V) (us : List Value) (Q : VK), Inv X pins σ H s → Vals xs us → r xs H Q →
    wpAny (model X.prog X.w) X.A (call f us) (EP X pins σ Q) X.xe s
/-- a value's truth -/
def TruR (X : Cx) (r : V → Hp → (Bool → Hp → Prop) → Prop) : Prop :=
  ∀ (pins : List (Addr × Obj)) (s : Shared) (σ : St) (H : Hp) (x : V) (v : Value) (Q : Bool → Hp → Prop), Inv X pins σ H s → RelV x v → r x H Q →
    wpAny (model X.prog X.w) X.A (truthy v) (TP X pins σ Q) X.xe s

def tOp (r : R2) (ta tb : TE) : TE := fun σ H Q => ta σ H fun x H1 => tb σ H1 fun y H2 => r x y H2 Q
/-- ints in, under C, and a value out -/
def rI (C : Int → Int → Prop) (g : Int → Int → V) : R2 := fun x y H Q => ∃ i j, x = .int i ∧ y = .int j ∧ C i j ∧ Q (g i j) H
def rI0 (g : Int → Int → V) : R2 := fun x y H Q => ∃ i j, x = .int i ∧ y = .int j ∧ Q (g i j) H

section
variable {X : Cx} {a b c : Expr} {ta tb tc : TE} {pos : Pos}

theorem binT (ha : PE X a ta) (hb : PE X b tb) {pins : List (Addr × Obj)} {s : Shared} {σ : St} {H : Hp} {R : V → V → Hp → Prop} (I : Inv X pins σ H s)
    (h : ta σ H fun x H1 => tb σ H1 fun y H2 => R x y H2) {Q : Value → Shared → Prop} {f : Value → Value → Sem Value}
    (hf : ∀ v u s2 x y H2, Inv X pins σ H2 s2 → RelV x v → RelV y u → R x y H2 → wpAny (model X.prog X.w) X.A (f v u) Q X.xe s2) :
    wpAny (model X.prog X.w) X.A (eval a X.env) (fun v s₁ => wpAny (model X.prog X.w) X.A (eval b X.env) (fun u s₂ => wpAny (model X.prog X.w) X.A (f v u) Q X.xe s₂) X.xe s₁) X.xe s := by
  refine thn (ha pins s σ H _ I h) fun v s1 ⟨x, H1, I1, r1, q1⟩ => ?_
  refine thn (hb pins s1 σ H1 _ I1 q1) fun u s2 ⟨y, H2, I2, r2, q2⟩ => ?_
  exact hf v u s2 x y H2 I2 r1 r2 q2

theorem pe_op {op : Operator} {r : R2} (ho : OpR X (binaryOp op) r) (ha : PE X a ta) (hb : PE X b tb) : PE X (.BinOp a op b pos) (tOp r ta tb) := by
  intro pins s σ H Q I h
  exact wpAny_BinOp (binT ha hb I h fun v u s2 x y H2 I2 rx ry q => ho pins s2 σ H2 x y v u Q I2 rx ry q)

/-! ### ints -/
theorem opI {f : Value → Value → Sem Value} {C : Int → Int → Prop} {g : Int → Int → Int}
    (rule : ∀ (i j : Int) (t u : Tok) (s : Shared) (Q : Value → Shared → Prop) (E : Value → Shared → Prop), C i j → Q (.int (g i j) s.toks) { s with toks := s.toks + 1 } → wpAny (model X.prog X.w) X.A (f (.int i t) (.int j u)) Q E s) :
    OpR X f (rI C fun i j => .int (g i j)) := by
  intro pins s σ H x y v u Q I rx ry h
  obtain ⟨i, j, rfl, rfl, hc, q⟩ := h
  obtain ⟨t, rfl⟩ := rx
  obtain ⟨t', rfl⟩ := ry
  exact rule i j t t' s _ _ hc ⟨.int (g i j), H, I.tok _, ⟨_, rfl⟩, q⟩
theorem opI0 {f : Value → Value → Sem Value} {g : Int → Int → Int}
    (rule : ∀ (i j : Int) (t u : Tok) (s : Shared) (Q : Value → Shared → Prop) (E : Value → Shared → Prop), Q (.int (g i j) s.toks) { s with toks := s.toks + 1 } → wpAny (model X.prog X.w) X.A (f (.int i t) (.int j u)) Q E s) :
    OpR X f (rI0 fun i j => .int (g i j)) := by
  intro pins s σ H x y v u Q I rx ry h
  obtain ⟨i, j, rfl, rfl, q⟩ := h
  obtain ⟨t, rfl⟩ := rx
  obtain ⟨t', rfl⟩ := ry
  exact rule i j t t' s _ _ ⟨.int (g i j), H, I.tok _, ⟨_, rfl⟩, q⟩
theorem opB0 {f : Value → Value → Sem Value} {g : Int → Int → Bool}
    (rule : ∀ (i j : Int) (t u : Tok) (s : Shared) (Q : Value → Shared → Prop) (E : Value → Shared → Prop), Q (.bool (g i j)) s → wpAny (model X.prog X.w) X.A (f (.int i t) (.int j u)) Q E s) :
    OpR X f (rI0 fun i j => .bl (g i j)) := by
  intro pins s σ H x y v u Q I rx ry h
  obtain ⟨i, j, rfl, rfl, q⟩ := h
  obtain ⟨t, rfl⟩ := rx
  obtain ⟨t', rfl⟩ := ry
  exact rule i j t t' s _ _ ⟨.bl (g i j), H, I, rfl, q⟩

def CDiv (i j : Int) : Prop := 0 < j ∧ j < 1073741824
def CDivN (i j : Int) : Prop := j ≠ 0 ∧ j.natAbs < 1073741824
def CPow (i j : Int) : Prop := 0 ≤ j ∧ j ≤ 1000000 ∧ i.natAbs < 2 ^ 64
def CMul (i j : Int) : Prop := (-(2 ^ 64) < i ∧ i < 2 ^ 64) ∨ (-(2 ^ 64) < j ∧ j < 2 ^ 64)
theorem CMul.ok {i j : Int} (h : CMul i j) : IntMulOk i j := by
  rcases h with ⟨h1, h2⟩ | ⟨h1, h2⟩
  · exact .of_left (intBits_le_64 h1 h2)
  · exact .of_right (intBits_le_64 h1 h2)

theorem op_add : OpR X (binaryOp .Add) (rI0 fun i j => .int (i + j)) := opI0 fun _ _ _ _ _ _ _ q => add_int q
theorem op_sub : OpR X (binaryOp .Sub) (rI0 fun i j => .int (i - j)) := opI0 fun _ _ _ _ _ _ _ q => sub_int q
/-- // by a positive divisor -/
theorem op_fdiv : OpR X (binaryOp .FloorDiv) (rI CDiv fun i j => .int (i / j)) := opI fun i j _ _ _ _ _ hc q => by
  have h1 : (0 : Int) < j := hc.1
  have h2 : j < 1073741824 := hc.2
  exact floordiv_int (by omega) (by rw [Int.fdiv_eq_ediv_of_nonneg i (by omega)]; exact q) (.inl (PyProof.noPylong_small (by omega)))
/-- % by a positive divisor of any size -/
theorem op_mod : OpR X (binaryOp .Mod) (rI (fun _ j => 0 < j) fun i j => .int (i % j)) := opI fun i j _ _ _ _ _ hc q => by
  have h1 : (0 : Int) < j := hc
  exact mod_int' (by omega) (by rw [Int.fmod_eq_emod_of_nonneg i (by omega)]; exact q)
theorem op_pow : OpR X (binaryOp .Pow) (rI CPow fun i j => .int (i ^ j.toNat)) := opI fun _ _ _ _ _ _ _ hc q => pow_int_small hc.1 hc.2.1 hc.2.2 q



/-! ### bools among ints: n += (a < b) -/
end

/-! ### comparisons -/


section
variable {X : Cx} {a b c : Expr} {ta tb tc : TE} {pos : Pos}
theorem fin_bl {pins : List (Addr × Obj)} {σ : St} {H : Hp} {s : Shared} {Q : VK} {k k' : Bool} (I : Inv X pins σ H s) (q : Q (.bl k) H) (e : k = k') : EP X pins σ Q (.bool k') s := by
  subst e
  exact ⟨.bl k, H, I, rfl, q⟩

theorem op_lt : OpR X (compareOp .Lt) (rI0 fun i j => .bl (decide (i < j))) := opB0 fun _ _ _ _ _ _ _ q => lt_int q
theorem op_le : OpR X (compareOp .LtE) (rI0 fun i j => .bl (decide (i ≤ j))) := opB0 fun _ _ _ _ _ _ _ q => le_int q


theorem op_notin_str : OpR X (compareOp .NotIn) (fun x y H Q => ∃ i j, x = .str i ∧ y = .str j ∧ Q (.bl (!(!(Builtin.Str.occurrences j i 0 j.length 1).isEmpty))) H) := by
  intro pins s σ H x y v u Q I rx ry h
  obtain ⟨i, j, rfl, rfl, q⟩ := h
  obtain ⟨t, rfl⟩ := rx
  obtain ⟨t', rfl⟩ := ry
  exact notIn_str (fin_bl I q rfl)

/-- two rules for one operation: by cases -/
theorem OpR.or {f : Value → Value → Sem Value} {r r' : R2} (h : OpR X f r) (h' : OpR X f r') : OpR X f (fun x y H Q => r x y H Q ∨ r' x y H Q) := by
  intro pins s σ H x y v u Q I rx ry q
  rcases q with q | q
  · exact h pins s σ H x y v u Q I rx ry q
  · exact h' pins s σ H x y v u Q I rx ry q

theorem nomark (b : Expr) {op : CmpOp} (h : op ≠ .In := by decide) (h2 : op ≠ .NotIn := by decide) : behindInMarks op b = false := by
  have e1 : (op == CmpOp.In) = false := by cases op <;> first | rfl | exact absurd rfl h
  have e2 : (op == CmpOp.NotIn) = false := by cases op <;> first | rfl | exact absurd rfl h2
  cases b <;> simp [behindInMarks, e1, e2]
/-- a comparison as a value; hm: nomark b, or (for in, not in) by with_unfolding_all rfl -/
theorem pe_cmpR {op : CmpOp} {r : R2} (ho : OpR X (compareOp op) r) (ha : PE X a ta) (hb : PE X b tb) (hm : behindInMarks op b = false) : PE X (.Compare a [op] [b] pos) (tOp r ta tb) := by
  intro pins s σ H Q I h
  exact wpAny_Compare1 (binT ha hb I h fun v u s2 x y H2 I2 rx ry q => ho pins s2 σ H2 x y v u Q I2 rx ry q) hm
/-- a reading of a value as a test -/
def tTest (t : TE) : TT := fun σ H Q => t σ H fun x H' => ∃ k, x = .bl k ∧ Q k H'
theorem pt_cmpR {op : CmpOp} {r : R2} (ho : OpR X (compareOp op) r) (ha : PE X a ta) (hb : PE X b tb) (hm : behindInMarks op b = false) : PT X (.Compare a [op] [b] pos) (tTest (tOp r ta tb)) := by
  intro pins s σ H Q I h
  refine wpAny_isTrue_Compare1 (thn (ha pins s σ H _ I h) fun v s1 ⟨x, H1, I1, r1, q1⟩ => thn (hb pins s1 σ H1 _ I1 q1) fun u s2 ⟨y, H2, I2, r2, q2⟩ =>
    thn (ho pins s2 σ H2 x y v u _ I2 r1 r2 q2) fun c s3 ⟨z, H3, I3, r3, k, e, q3⟩ => ?_) hm
  subst e
  cases r3
  exact wpAny_truthy_bool ⟨H3, I3, q3⟩
/-- a op1 b op2 c -/
def tChain (r r' : R2) (ta tb tc : TE) : TE := fun σ H Q => ta σ H fun x H1 => tb σ H1 fun y H2 => r x y H2 fun z H3 => ∃ k, z = .bl k ∧
  (if k = true then tc σ H3 fun w' H4 => r' y w' H4 Q else Q (.bl false) H3)
theorem pe_chain {op op' : CmpOp} {r r' : R2} (ho : OpR X (compareOp op) r) (ho' : OpR X (compareOp op') r') (ha : PE X a ta) (hb : PE X b tb) (hc : PE X c tc)
    (hm : lastMarks [op, op'] [b, c] = false := by with_unfolding_all rfl) : PE X (.Compare a [op, op'] [b, c] pos) (tChain r r' ta tb tc) := by
  intro pins s σ H Q I h
  refine Compare_chain (thn (ha pins s σ H _ I h) fun v s1 ⟨x, H1, I1, r1, q1⟩ => chain_link (thn (hb pins s1 σ H1 _ I1 q1) fun u s2 ⟨y, H2, I2, r2, q2⟩ =>
    thn (ho pins s2 σ H2 x y v u _ I2 r1 r2 q2) fun d s3 ⟨z, H3, I3, r3, k, e, q3⟩ => ?_)) hm
  subst e
  cases r3
  refine wpAny_truthy_bool ?_
  cases k with
  | false => exact ite_ff ⟨.bl false, H3, I3, rfl, q3⟩
  | true => exact ite_tt (chain_last (thn (hc pins s3 σ H3 _ I3 q3) fun w' s4 ⟨z', H4, I4, r4, q4⟩ => ho' pins s4 σ H4 y z' u w' Q I4 r2 r4 q4))
theorem pt_chain {op op' : CmpOp} {r r' : R2} (ho : OpR X (compareOp op) r) (ho' : OpR X (compareOp op') r') (ha : PE X a ta) (hb : PE X b tb) (hc : PE X c tc)
    (hm : lastMarks [op, op'] [b, c] = false := by with_unfolding_all rfl) : PT X (.Compare a [op, op'] [b, c] pos) (tTest (tChain r r' ta tb tc)) := by
  intro pins s σ H Q I h
  refine isTrue_chain (thn (ha pins s σ H _ I h) fun v s1 ⟨x, H1, I1, r1, q1⟩ => test_link (thn (hb pins s1 σ H1 _ I1 q1) fun u s2 ⟨y, H2, I2, r2, q2⟩ =>
    thn (ho pins s2 σ H2 x y v u _ I2 r1 r2 q2) fun d s3 ⟨z, H3, I3, r3, k, e, q3⟩ => ?_)) hm
  subst e
  cases r3
  refine wpAny_truthy_bool ?_
  cases k with
  | false =>
    obtain ⟨k', e', q'⟩ := q3
    cases e'
    exact ite_ff ⟨H3, I3, q'⟩
  | true =>
    refine ite_tt (test_last (thn (hc pins s3 σ H3 _ I3 q3) fun w' s4 ⟨z', H4, I4, r4, q4⟩ => thn (ho' pins s4 σ H4 y z' u w' _ I4 r2 r4 q4) fun d' s5 ⟨z2, H5, I5, r5, k2, e2, q5⟩ => ?_))
    subst e2
    cases r5
    exact wpAny_truthy_bool ⟨H5, I5, q5⟩

/-! ### truth -/
/-- a value's truth by the abstract heap -/
def TruV (K : PySem.W.Frag) (x : V) (H : Hp) (k : Bool) : Prop :=
  match x with
  | .non => k = false
  | .bl b => k = b
  | .int i => k = (i != 0)
  | .str y => y.length ≤ sizeLine ∧ k = ((y.length : Int) != 0)
  | .byt y => y.size ≤ sizeLine ∧ k = ((y.size : Int) != 0)
  | .ref p => (∃ xs, SqL K H p xs ∧ k = !xs.isEmpty) ∨ (∃ xs, SqT K H p xs ∧ k = !xs.isEmpty) ∨ ∃ kvs, H p = some (.dK kvs) ∧ k = !kvs.isEmpty
  | _ => False
theorem isEmpty_kv {κ : Type} {kvs : List (κ × V)} {vs : List (κ × Value)} (r : KV kvs vs) : (!vs.isEmpty) = !kvs.isEmpty := by
  cases r <;> rfl
theorem isEmpty_of {xs : List V} {its : List Value} (r : Vals xs its) : (!its.toArray.isEmpty) = !xs.isEmpty := by
  cases r <;> simp
theorem line63 : (sizeLine : Nat) < 2 ^ 63 := by rw [sizeLine_eq]; decide
theorem tru_ok : TruR X (fun x H Q => ∃ k, TruV X.K x H k ∧ Q k H) := by
  intro pins s σ H x v Q I rx h
  obtain ⟨k, e, q⟩ := h
  have hl := line63
  have hs : sizeLine = 16777216 := sizeLine_eq
  cases x with
  | non =>
    cases rx
    have e' : k = false := e
    subst e'
    exact truthy_none ⟨H, I, q⟩
  | bl b =>
    cases rx
    have e' : k = b := e
    subst e'
    exact wpAny_truthy_bool ⟨H, I, q⟩
  | int i =>
    obtain ⟨t, rfl⟩ := rx
    have e' : k = (i != 0) := e
    subst e'
    exact PySem.P.truthy_int ⟨H, I, q⟩
  | str y =>
    obtain ⟨t, rfl⟩ := rx
    obtain ⟨hy, e'⟩ : y.length ≤ sizeLine ∧ k = ((y.length : Int) != 0) := e
    subst e'
    exact PySem.P.truthy_str (by omega) ⟨H, I.tok _, q⟩
  | byt y =>
    obtain ⟨t, rfl⟩ := rx
    obtain ⟨hy, e'⟩ : y.size ≤ sizeLine ∧ k = ((y.size : Int) != 0) := e
    subst e'
    exact PySem.W.truthy_bytes (by omega) ⟨H, I.tok _, q⟩
  | ref p =>
    cases rx
    have e' : (∃ xs, SqL X.K H p xs ∧ k = !xs.isEmpty) ∨ (∃ xs, SqT X.K H p xs ∧ k = !xs.isEmpty) ∨ ∃ kvs, H p = some (.dK kvs) ∧ k = !kvs.isEmpty := e
    rcases e' with ⟨xs, hx, e'⟩ | ⟨xs, hx, e'⟩ | ⟨kvs, hx, e'⟩
    · subst e'
      obtain ⟨its, r, pl, hz⟩ := I.list hx
      have hlen := r.length
      exact wpAny_truthy_list pl.isList (by simp only [List.size_toArray]; omega) ⟨H, I.tok _, by rw [isEmpty_of r]; exact q⟩
    · subst e'
      obtain ⟨its, r, pl, hz⟩ := I.tuple hx
      have hlen := r.length
      exact truthy_tuple pl (by simp only [List.size_toArray]; omega) ⟨H, I.tok _, by rw [isEmpty_of r]; exact q⟩
    · subst e'
      obtain ⟨hz, hS, vs, r, m⟩ : kvs.length ≤ sizeLine ∧ (p == sysModules) = false ∧ ∃ vs, KV kvs vs ∧ s.heap.DictOf (mixKind X.prog X.w) p vs := I.hok p _ hx
      have hlen : kvs.length = vs.length := Paired.length r
      exact wpAny_truthy_dict hS m (by omega) ⟨H, I.tok _, by rw [isEmpty_kv r]; exact q⟩
  | _ => exact (show False from e).elim
/-- any expression whose test is its value's truth (a name, a call, a subscript, a field ..: he by fun _ => rfl) -/
theorem pt_truth (ha : PE X a ta) (he : ∀ whole, isTrue a X.env whole = (do let v ← whole; standAt a.pos; holding [v] (truthy v))) :
    PT X a (fun σ H Q => ta σ H fun x H' => ∃ k, TruV X.K x H' k ∧ Q k H') := by
  intro pins s σ H Q I h
  exact isTrue_plain (thn (ha pins s σ H _ I h) fun v s1 ⟨x, H1, I1, r1, q1⟩ => tru_ok pins s1 σ H1 x v Q I1 r1 q1) (he _)

/-! ### strs and bytes -/


/-! ### scalar builtins, by CallR -/
theorem vals1 {x : V} {us : List Value} (r : Vals [x] us) : ∃ u, us = [u] ∧ RelV x u := by
  cases r with
  | cons r1 r2 => cases r2; exact ⟨_, rfl, r1⟩
theorem vals2 {x y : V} {us : List Value} (r : Vals [x, y] us) : ∃ u w', us = [u, w'] ∧ RelV x u ∧ RelV y w' := by
  cases r with
  | cons r1 r2 =>
    cases r2 with
    | cons r3 r4 => cases r4; exact ⟨_, _, rfl, r1, r3⟩
/-- len of a str, a bytes, a list, a tuple -/
def LenV (K : PySem.W.Frag) (x : V) (H : Hp) (n : Nat) : Prop :=
  match x with
  | .str y => y.length ≤ sizeLine ∧ n = y.length
  | .byt y => y.size ≤ sizeLine ∧ n = y.size
  | .ref p => (∃ xs, SqL K H p xs ∧ n = xs.length) ∨ ∃ xs, SqT K H p xs ∧ n = xs.length
  | _ => False
theorem call_len : CallR X (.builtin "len") (fun xs H Q => ∃ x n, xs = [x] ∧ LenV X.K x H n ∧ Q (.int n) H) := by
  intro pins s σ H xs us Q I r h
  obtain ⟨x, n, rfl, e, q⟩ := h
  obtain ⟨u, rfl, rx⟩ := vals1 r
  have hl := line63
  have hs : sizeLine = 16777216 := sizeLine_eq
  cases x with
  | str y =>
    obtain ⟨t, rfl⟩ := rx
    obtain ⟨hy, e'⟩ : y.length ≤ sizeLine ∧ n = y.length := e
    subst e'
    exact len_str (by omega) ⟨.int _, H, I.tok _, ⟨_, rfl⟩, q⟩
  | byt y =>
    obtain ⟨t, rfl⟩ := rx
    obtain ⟨hy, e'⟩ : y.size ≤ sizeLine ∧ n = y.size := e
    subst e'
    exact PySem.W.len_bytes (by omega) ⟨.int _, H, I.tok _, ⟨_, rfl⟩, q⟩
  | ref p =>
    cases rx
    have e' : (∃ xs, SqL X.K H p xs ∧ n = xs.length) ∨ ∃ xs, SqT X.K H p xs ∧ n = xs.length := e
    rcases e' with ⟨xs, hx, e'⟩ | ⟨xs, hx, e'⟩
    · subst e'
      obtain ⟨its, r', pl, hz⟩ := I.list hx
      have hlen := r'.length
      exact Calls.call_len_list pl.isList (by simp only [List.size_toArray]; omega) ⟨.int xs.length, H, I.tok _, ⟨_, by simp only [List.size_toArray]; rw [hlen]⟩, q⟩
    · subst e'
      obtain ⟨its, r', pl, hz⟩ := I.tuple hx
      have hlen := r'.length
      exact len_tuple pl (by simp only [List.size_toArray]; omega) ⟨.int xs.length, H, I.tok _, ⟨_, by simp only [List.size_toArray]; rw [hlen]⟩, q⟩
  | _ => exact (show False from e).elim
end
end L2

namespace L2
open PySem PySem.Spec PyProof.Rows

/-! ### an instance, its attributes a map -/
structure ObjM (h : Heap) (x dx C : Addr) (mA : Str → Option Value) : Prop where
  obj : h.get? x = some (PySem.W.instObj C dx)
  ns : h.Ns1 dx mA
  ne : dx ≠ x

theorem lookIn_ns {h : Heap} {dx : Addr} {mA : Str → Option Value} (n : h.Ns1 dx mA) : ∃ od, h.get? dx = some od ∧ ∀ name, PySem.W.lookIn name od = some (mA name) := by
  obtain ⟨o, es, ep, ho, hd, hk, _, hm⟩ := n
  refine ⟨o, ho, fun name => ?_⟩
  have e := hm name
  unfold nsFind findBy at e
  rw [← Array.find?_toList] at e
  unfold PySem.W.lookIn
  rw [hd]
  dsimp only
  split
  · rename_i y q
    rw [q] at e
    exact congrArg some e
  · rename_i q
    rw [q] at e
    have a : es.toList.any (·.refKey) = false := by
      rw [List.any_eq_false]
      intro y hy
      obtain ⟨z, t, hkey⟩ := hk y (Array.mem_toList_iff.mp hy)
      simp [DictEntry.refKey, hkey]
    have a' : ¬ es.toList.any (·.refKey) = true := by rw [a]; exact Bool.false_ne_true
    rw [if_neg a']
    exact congrArg some e

theorem ObjM.look {h : Heap} {x dx C : Addr} {mA : Str → Option Value} (I : ObjM h x dx C mA) : ∃ od, PySem.W.InstAt h x (PySem.W.instObj C dx) C (some od) ∧ ∀ name, PySem.W.lookIn name od = some (mA name) :=
  let ⟨od, ho, hl⟩ := lookIn_ns I.ns
  ⟨od, ⟨I.obj, rfl, rfl, ho⟩, hl⟩

section
variable {prog : Program} {w : World} {A : Around} {E : Value → Shared → Prop} {s : Shared} {K : PySem.W.Frag} {x dx C f : Addr} {mA : Str → Option Value} {name : Str} {v : Value}





end

/-! ### the attributes as a list of pairs -/

theorem RelO.some_of {v : V} {o : Option Value} (r : RelO (some v) o) : ∃ u, o = some u ∧ RelV v u := by
  cases o with
  | none => exact (show False from r).elim
  | some u => exact ⟨u, rfl, r⟩
theorem RelO.none_of {o : Option Value} (r : RelO none o) : o = none := by
  cases o with
  | none => rfl
  | some u => exact (show False from r).elim

section
variable {P : Program} {w : World} {H H' : Hp} {h h' : Heap} {a C dx : Addr} {fs fs' : List (Str × V)}
theorem ins_get (hok : HOk P w H h) (e : H a = some (.ins C dx fs)) : ∃ mA, ObjM h a dx C mA ∧ (∀ f, RelO (fs.lookup f) (mA f)) ∧ PySem.Within mA (fs.map (·.1)) ∧ fs.length ≤ 1000 ∧ H dx = some (.own a) := by
  obtain ⟨d, z, ne, ob, mA, n, r, q⟩ := (show ObjOk P w H h a (.ins C dx fs) from hok a _ e)
  exact ⟨mA, ⟨ob, n, ne⟩, r, q, z, d⟩
end

/-! ### what of the text a class must have -/
structure Cls (K : PySem.W.Frag) (C : Addr) : Prop where
  pg : PySem.W.plainGet K C Str.empty = true
  hd : PySem.W.hasDictIn K C = true
  po : PySem.W.plainOver K C = true
  sa : PySem.W.findIn K (.ref C) "__setattr__" = some (some (.builtin "object.__setattr__"))
theorem Cls.get {K : PySem.W.Frag} {C : Addr} (c : Cls K C) (f : Str) : PySem.W.plainGet K C f = true := c.pg
/-- no class of it has the name -/
def NoAttr (K : PySem.W.Frag) (C : Addr) (f : Str) : Prop := PySem.W.findIn K (.ref C) f = some none
/-- a constant of the class -/
structure Con (K : PySem.W.Frag) (C : Addr) (f : Str) (v : V) (u : Value) : Prop where
  at_ : PySem.W.findIn K (.ref C) f = some (some u)
  rel : RelV v u
  get : PySem.W.specialIn K u "__get__" = some none
  cp : PySem.W.copiedNames.contains f = false
/-- a method: a plain def of the class or of one above it -/
structure Meth (K : PySem.W.Frag) (C : Addr) (m : Str) (f : Addr) : Prop where
  at_ : PySem.W.findIn K (.ref C) m = some (some (.ref f))
  fn : PySem.W.isFn K (.ref f) = true
  kp : PySem.W.keepIn K (.ref f) = true

section
variable {X : Cx} {pins : List (Addr × Obj)} {σ : St} {H : Hp} {s : Shared} {a C dx : Addr} {fs : List (Str × V)} {f : Str} {v : V} {A : Around} {E : Value → Shared → Prop}





/-- a new instance, tracked, without attributes -/
theorem Inv.made (I : Inv X pins σ H s) : Inv X pins σ (upd (upd H s.heap.objs.size (.own (s.heap.objs.size + 1))) (s.heap.objs.size + 1) (.ins C s.heap.objs.size []))
    { s with heap := (s.heap.push PySem.W.emptyDict).push (PySem.W.instObj C s.heap.objs.size) } := by
  have e1 : (s.heap.push PySem.W.emptyDict).get? s.heap.objs.size = some PySem.W.emptyDict := Heap.get?_push_size s.heap rfl
  have e2 : ((s.heap.push PySem.W.emptyDict).push (PySem.W.instObj C s.heap.objs.size)).get? (s.heap.objs.size + 1) = some (PySem.W.instObj C s.heap.objs.size) := by
    have := Heap.get?_push_size (s.heap.push PySem.W.emptyDict) (o := PySem.W.instObj C s.heap.objs.size) rfl
    rwa [Heap.size_push] at this
  have e3 : (s.heap.push PySem.W.emptyDict).Ns s.heap.objs.size (fun _ => none) := ⟨PySem.W.emptyDict, #[], _, e1, rfl, (fun e he => absurd he (by simp)), fun _ => rfl⟩
  have I1 := I.laid (a := s.heap.objs.size) (o := .own (s.heap.objs.size + 1)) (h' := s.heap.push PySem.W.emptyDict) (t' := s.toks) (fun b u q => Heap.get?_push_of_some _ q) (Nat.le_refl _) ⟨_, e1⟩
  refine I1.laid (a := s.heap.objs.size + 1) (o := .ins C s.heap.objs.size []) (t' := s.toks) (fun b u q => Heap.get?_push_of_some _ q) (Nat.le_of_eq (Heap.size_push _ _)) ?_
  have ne : s.heap.objs.size ≠ s.heap.objs.size + 1 := Nat.ne_of_lt (Nat.lt_succ_self _)
  refine ⟨by rw [upd_ne ne, upd_same], Nat.zero_le _, ne, e2, fun _ => none, (Heap.Ns1.of_empty e3).at fun o q => Heap.get?_push_of_some _ q, fun _ => True.intro, fun y hy => absurd rfl hy⟩

end

/-! ### readings and rules -/

section
variable {X : Cx} {o e value : Expr} {f : Str} {pos pos' tpos : Pos} {ta tv : TE}

end

/-! ### isinstance -/
section
variable {X : Cx} {pins : List (Addr × Obj)} {σ : St} {H : Hp} {s : Shared} {A : Around} {E : Value → Shared → Prop} {Q : Value → Shared → Prop} {c : Value} {b : Bool}
/-- the type of a value, as the fragment's deciders take it; for an instance its class -/
inductive TyOf (K : PySem.W.Frag) (H : Hp) : V → Value → Prop where
  | non : TyOf K H .non (.type "NoneType")
  | bl (x : Bool) : TyOf K H (.bl x) (.type "bool")
  | int (i : Int) : TyOf K H (.int i) (.type "int")
  | str (x : Str) : TyOf K H (.str x) (.type "str")
  | flt (x : UInt64) : TyOf K H (.flt x) (.type "float")
  | lst {a : Addr} {xs : List V} (e : H a = some (.lst xs)) : TyOf K H (.ref a) (.type "list")
  | frz {a : Addr} {o : Obj} {xs : List V} (e : H a = some (.frz o (.lst xs))) : TyOf K H (.ref a) (.type "list")
  | tup {a : Addr} {xs : List V} (e : H a = some (.tup xs)) : TyOf K H (.ref a) (.type "tuple")
  | dK {a : Addr} {kvs : List (Key × V)} (e : H a = some (.dK kvs)) : TyOf K H (.ref a) (.type "dict")
  | dT {a : Addr} {kvs : List (List Key × V)} (e : H a = some (.dT kvs)) : TyOf K H (.ref a) (.type "dict")
  | ins {a C dx : Addr} {fs : List (Str × V)} (e : H a = some (.ins C dx fs)) (cl : Cls K C) (ha : PySem.W.findIn K (.ref C) "__class__" = some (some (.builtin "object.__class__")))
      (hn : PySem.W.specialIn K (.builtin "object.__class__") "__get__" = some (some (.builtin "getset_descriptor.__get__"))) (htk : PySem.W.takesIn K (.builtin "object.__class__") = some true)
      (hm : PySem.W.mroIn K C (.type "object") = some true) : TyOf K H (.ref a) (.ref C)
end
end L2

namespace L2
open PySem PySem.Spec PyProof.Rows

/-! ### room -/
structure Room (k : Nat) (A : Around) : Prop where
  hd : A.handled = none
  dp : A.depth + 3 * k + 5 < recursionLimit
  un : A.units + 16 * k + 200 < cLine
theorem Room.mono {j k : Nat} {A : Around} (r : Room k A) (h : j ≤ k) : Room j A := ⟨r.hd, by have := r.dp; omega, by have := r.un; omega⟩
theorem Room.deeper {k : Nat} {A : Around} (r : Room (k + 1) A) (env : Env) : Room k (A.deeper env) :=
  ⟨r.hd, by have := r.dp; show A.depth + 1 + 3 * k + 5 < _; omega, by have := r.un; show A.units + 3 + 16 * k + 200 < _; omega⟩
theorem Room.in1 {k : Nat} {A : Around} (r : Room (k + 1) A) : Room k A.in1 :=
  ⟨r.hd, by have := r.dp; show A.depth + 3 * k + 5 < _; omega, by have := r.un; show A.units + 1 + 16 * k + 200 < _; omega⟩
theorem Room.depth {k : Nat} {A : Around} (r : Room k A) : A.depth < recursionLimit := by have := r.dp; omega
theorem Room.units {k : Nat} {A : Around} (r : Room k A) : A.units + 64 < cLine := by have := r.un; omega

/-! ### argument lists and displays -/
def tNil : TA := fun _ H Q => Q [] H
def tCons (ta : TE) (tr : TA) : TA := fun σ H Q => ta σ H fun x H1 => tr σ H1 fun xs H2 => Q (x :: xs) H2
section
variable {X : Cx} {e : Expr} {es : List Expr} {te : TE} {t : TA} {pos : Pos}
theorem pa_nil : PA X [] tNil := fun _ _ _ _ H Q I h => Calls.spliced_nil ⟨[], H, I, .nil, h⟩
theorem pa_cons (ha : PE X e te) (hr : PA X es t) (hs : starEach (e :: es) X.env = (false, eval e X.env) :: starEach es X.env := by rfl) : PA X (e :: es) (tCons te t) := by
  intro pos pins s σ H Q I h
  rw [hs]
  show wpAny _ _ (spliced ((false, eval e X.env) :: backTo pos (starEach es X.env))) _ _ s
  refine Calls.spliced_cons (thn (ha pins s σ H _ I h) fun u s1 ⟨x, H1, I1, r1, q1⟩ => ?_)
  exact thn (hr pos pins s1 σ H1 _ I1 q1) fun us s2 ⟨xs, H2, I2, r2, q2⟩ => ⟨x :: xs, H2, I2, .cons r1 r2, q2⟩

/-- a tuple, a list of written items -/
def tTup (t : TA) : TE := fun σ H Q => t σ H fun xs H1 => xs.length ≤ sizeLine ∧ ∀ p, H1 p = none → Q (.ref p) (upd H1 p (.tup xs))
def tLst (t : TA) : TE := fun σ H Q => t σ H fun xs H1 => xs.length ≤ sizeLine ∧ ∀ p, H1 p = none → Q (.ref p) (upd H1 p (.lst xs))
theorem pe_tup {x1} (h : PA X es t) : PE X (.Tuple es x1 pos) (tTup t) := by
  intro pins s σ H Q I hq
  refine wpAny_Tuple_spliced (thn (h pos pins s σ H _ I hq) fun us s1 ⟨xs, H1, I1, r, z, q⟩ => ⟨by rw [← r.length]; exact z, ?_⟩)
  have hf : H1 s1.heap.objs.size = none := I1.hok.fresh (Nat.le_refl _)
  refine ⟨.ref s1.heap.objs.size, upd H1 s1.heap.objs.size (.tup xs), I1.laid (t' := s1.toks) (fun b u e => Heap.get?_push_of_some _ e) (Nat.le_refl _) ?_, rfl, q _ hf⟩
  exact ⟨z, us, r, TupN.new _ _⟩
theorem pe_lst (h : PA X es t) : PE X (.List es pos) (tLst t) := by
  intro pins s σ H Q I hq
  refine wpAny_List_spliced (thn (h pos pins s σ H _ I hq) fun us s1 ⟨xs, H1, I1, r, z, q⟩ => ⟨by rw [← r.length]; exact z, ?_⟩)
  have hf : H1 s1.heap.objs.size = none := I1.hok.fresh (Nat.le_refl _)
  refine ⟨.ref s1.heap.objs.size, upd H1 s1.heap.objs.size (.lst xs), I1.laid (t' := s1.toks) (fun b u e => Heap.get?_push_of_some _ e) (Nat.le_refl _) ?_, rfl, q _ hf⟩
  exact ⟨z, us, 0, r, Heap.get?_push_size _ rfl⟩
end

/-! ### what a def promises -/
/-- a def's promise: the bound arguments in the parameters' order, the heap, the wanted end, the wanted exception -/
abbrev Sp := List V → Hp → VK → XK → Prop
/-- how an exception lies behind a call (file 08 gives it): the callers' frames, abstract heap and state ahead of the call, the wish, the exception, the state -/
abbrev CXT := List Env → Hp → Shared → XK → Value → Shared → Prop

/-- the state at a call -/
structure Env0 (P : Program) (w : World) (K : PySem.W.Frag) (mg : Str → Option Value) (base : Heap) (A : Around) (outer : List Env) (s : Shared) (H : Hp) : Prop where
  frames : A.frames = some outer
  mod : Mod K mg base
  bs : ∀ b o, base.get? b = some o → s.heap.get? b = some o ∧ H b = none
  bsz : base.objs.size ≤ s.heap.objs.size
  funs : s.heap.FunFrames base outer
  frf : ∀ b ∈ frs outer, H b = none
  hok : HOk P w H s.heap
  bare : AllBare s.gens
/-- a call's end -/
def CE (outer : List Env) (P : Program) (w : World) (H : Hp) (s : Shared) (Q : VK) (u : Value) (s' : Shared) : Prop :=
  ∃ v H', s'.os = s.os ∧ AllBare s'.gens ∧ Un (frs outer) [] H H' s.heap s'.heap ∧ HOk P w H' s'.heap ∧ RelV v u ∧ Q v H'
def CR (CX : CXT) (outer : List Env) (P : Program) (w : World) (H : Hp) (s : Shared) (Q : VK) (E : XK) (r : Result) (s' : Shared) : Prop :=
  match r with
  | .ok (.ret u) => CE outer P w H s Q u s'
  | .ok _ => False
  | .error e => CX outer H s E e s'
structure FnOk (P : Program) (w : World) (K : PySem.W.Frag) (mg : Str → Option Value) (base : Heap) (CX : CXT) (k : Nat) (f : Addr) (fd : FuncData) (ps : List Str) (sp : Sp) : Prop where
  len : ∀ vs H Q E, sp vs H Q E → vs.length = ps.length
  run : ∀ (A : Around) (outer : List Env) (s : Shared) (H : Hp) (args : Args) (us : List Value) (vs : List V) (Q : VK) (E : XK), Room k A → Env0 P w K mg base A outer s H → BindsTo s fd args (ps.zip us) → Vals vs us → sp vs H Q E →
    codeAny (model P w) A (.call (.ref f) args) (CR CX outer P w H s Q E) s
theorem FnOk.mono {P : Program} {w : World} {K : PySem.W.Frag} {mg : Str → Option Value} {base : Heap} {CX : CXT} {j k : Nat} {f : Addr} {fd : FuncData} {ps : List Str} {sp : Sp} (F : FnOk P w K mg base CX j f fd ps sp) (h : j ≤ k) :
    FnOk P w K mg base CX k f fd ps sp := ⟨F.len, fun A outer s H args us vs Q E hr => F.run A outer s H args us vs Q E (hr.mono h)⟩
/-- a weaker promise -/
theorem FnOk.imp {P : Program} {w : World} {K : PySem.W.Frag} {mg : Str → Option Value} {base : Heap} {CX : CXT} {k : Nat} {f : Addr} {fd : FuncData} {ps : List Str} {sp sp' : Sp} (F : FnOk P w K mg base CX k f fd ps sp)
    (h : ∀ vs H Q E, sp' vs H Q E → sp vs H Q E) : FnOk P w K mg base CX k f fd ps sp' :=
  ⟨fun vs H Q E q => F.len vs H Q E (h _ _ _ _ q), fun A outer s H args us vs Q E hr he hb hv hs => F.run A outer s H args us vs Q E hr he hb hv (h _ _ _ _ hs)⟩

theorem Env0.in1 {P : Program} {w : World} {K : PySem.W.Frag} {mg : Str → Option Value} {base : Heap} {A : Around} {outer : List Env} {s : Shared} {H : Hp} (e : Env0 P w K mg base A outer s H) :
    Env0 P w K mg base A.in1 outer s H := ⟨e.frames, e.mod, e.bs, e.bsz, e.funs, e.frf, e.hok, e.bare⟩

section
variable {X : Cx} {pins : List (Addr × Obj)} {σ : St} {H : Hp} {s s' : Shared}
/-- from a body: what a callee wants -/
theorem Inv.env0 (I : Inv X pins σ H s) : Env0 X.prog X.w X.K X.mg X.base X.A X.stack s H :=
  ⟨I.ok.frames, I.ok.mod, I.bs, Nat.le_trans I.ok.bsz I.sz, I.stack, I.stkFree, I.hok, I.bare⟩
/-- behind a call -/
theorem Inv.after {Q : VK} {u : Value} (I : Inv X pins σ H s) (h : CE X.stack X.prog X.w H s Q u s') : EP X pins σ Q u s' := by
  obtain ⟨v, H', os, bare, un, hok, r, q⟩ := h
  obtain ⟨hh, g, d, t, os'⟩ := s'
  obtain rfl : os' = s.os := os
  exact ⟨v, H', I.call (h' := hh) (g' := g) (d' := d) (t' := t) (ch := []) un hok bare (fun b z => absurd z (by simp)), r, q⟩
end

/-! ### calls -/
/-- f(..): the written arguments, then the defaults dvs; E: what is wanted of an exception -/
def tCall (sp : Sp) (dvs : List V) (E : XK) (t : TA) : TE := fun σ H Q => t σ H fun vs H1 => sp (vs ++ dvs) H1 Q E

/-- how the parameters are bound: us the positional arguments, kw the keywords' values by name, ds the defaults that fill up -/
def Binds (K : PySem.W.Frag) (fd : FuncData) (ps : List Str) (ds : List Value) : Prop :=
  ∀ (s : Shared) (us : List Value), K.In s.heap → (us ++ ds).length = ps.length → BindsTo s fd ⟨us, []⟩ (ps.zip (us ++ ds))
/-- every parameter is given -/
theorem Binds.all {K : PySem.W.Frag} {fd : FuncData} {ps : List Str} (h : ∀ us : List Value, us.length = ps.length → bindArgs fd ⟨us, []⟩ = pure (ps.zip us)) : Binds K fd ps [] := fun s us _ hl => by
  rw [List.append_nil] at hl ⊢
  exact .of_eq (h us hl)

/-- an exception of a callee reaches what this body wants of exceptions -/
def Passes (CX : CXT) (X : Cx) (E : XK) : Prop := ∀ (pins : List (Addr × Obj)) (σ : St) (H : Hp) (s : Shared) (e : Value) (s' : Shared), Inv X pins σ H s → CX X.stack H s E e s' → X.xe e s'

section
variable {X : Cx} {CX : CXT} {k : Nat} {f C : Addr} {fd : FuncData} {ps : List Str} {sp : Sp} {dvs : List V} {ds : List Value} {E : XK} {x m : Str} {p pos apos : Pos} {e o : Expr} {es : List Expr} {ta : TE} {t : TA}

/-- the callee runs -/
theorem run_fn {pins : List (Addr × Obj)} {σ : St} {H : Hp} {s : Shared} {Q : VK} {us : List Value} {vs : List V} (F : FnOk X.prog X.w X.K X.mg X.base CX k f fd ps sp) (hr : Room k X.A) (hb : Binds X.K fd ps ds) (hd : Vals dvs ds) (hx : Passes CX X E)
    (I : Inv X pins σ H s) (r : Vals vs us) (h : sp (vs ++ dvs) H Q E) : wpAny (model X.prog X.w) X.A (call (.ref f) us) (EP X pins σ Q) X.xe s := by
  have r2 : Vals (vs ++ dvs) (us ++ ds) := r.append hd
  have hl : (us ++ ds).length = ps.length := by rw [← r2.length]; exact F.len _ _ _ _ h
  refine wpAny_call (codeAny_mono (F.run X.A X.stack s H ⟨us, []⟩ (us ++ ds) (vs ++ dvs) Q E hr I.env0 (hb s us I.kIn hl) r2 h) fun r s' hq => ?_)
  cases r with
  | error e => exact hx pins σ H s e s' I hq
  | ok fl =>
    cases fl with
    | ret u => exact I.after hq
    | next => exact False.elim hq
    | brk => exact False.elim hq
    | cont => exact False.elim hq

theorem pe_call (F : FnOk X.prog X.w X.K X.mg X.base CX k f fd ps sp) (hr : Room k X.A) (hg : Gl X x) (hm : X.mg x = some (.ref f)) (hk : PySem.W.keepIn X.K (.ref f) = true) (hb : Binds X.K fd ps ds) (hd : Vals dvs ds) (hx : Passes CX X E)
    (ha : PA X (e :: es) t) (hdb : (x == ("__debug__" : Str)) = false := by decide) (he : starEach (e :: es) X.env = (false, eval e X.env) :: starEach es X.env := by rfl) (hpl : (backTo pos (starEach es X.env)).any (·.1) = false := by rfl) :
    PE X (.Call (.Name x p) (e :: es) [] pos) (tCall sp dvs E t) := by
  intro pins s σ H Q I h
  refine wpAny_Call_Name_kw (ld_glob I hg hm ?_ hdb)
  refine PySem.W.callWith_K (h₀ := X.base) I.ok.mod.kin hk (thn (ha pos pins s σ H _ I h) fun us s1 ⟨vs, H1, I1, r, q⟩ => ⟨I1.kIn, ?_⟩) he hpl
  exact run_fn F hr hb hd hx I1 r q


/-- what a class must have to be made -/
structure Mk (K : PySem.W.Frag) (C f : Addr) : Prop where
  makes : PySem.W.makesIn K C = true
  init : PySem.W.findIn K (.ref C) "__init__" = some (some (.ref f))
  fn : PySem.W.isFn K (.ref f) = true
  kp : PySem.W.keepIn K (.ref C) = true

end

/-! ### keywords -/
section
variable {X : Cx} {CX : CXT} {k : Nat} {f C : Addr} {fd : FuncData} {ps ks : List Str} {sp : Sp} {E : XK} {x m : Str} {p pos apos kpos : Pos} {e o : Expr} {es : List Expr} {kws : List Keyword} {te ta : TE} {t tk : TA} {nm : Option Str}

/-- how a call with keywords binds: g puts the positional values us and the keywords' values ws (names ks) in the parameters' order, defaults among them -/
structure KBinds (K : PySem.W.Frag) (fd : FuncData) (ps ks : List Str) (g : List Value → List Value → List Value) (gV : List V → List V → List V) : Prop where
  to : ∀ (s : Shared) (us ws : List Value), K.In s.heap → (g us ws).length = ps.length → BindsTo s fd ⟨us, ks.zip ws⟩ (ps.zip (g us ws))
  rel : ∀ {vs : List V} {us : List Value} {zs : List V} {ws : List Value}, Vals vs us → Vals zs ws → Vals (gV vs zs) (g us ws)
variable {g : List Value → List Value → List Value} {gV : List V → List V → List V}
end

/-! ### a def's body keeps its promise -/
/-- names: the parameters first -/
structure FnScope (N P : List Str) (sc : Scope) : Prop where
  kind : sc.kind = .function
  co : sc.isCoroutine = false
  gen : sc.isGenerator = false
  nd : N.Nodup
  pre : N.take P.length = P
  par : ∀ x ∈ P, sc.names.lookup x = some .local ∨ sc.names.lookup x = some .cell
  nofree : ∀ y ∈ sc.names, y.2 ≠ .free

theorem bindL_out {kindOf : Str → Option NameKind} {x : Str} : ∀ {binds : List (Str × Value)} {m : Str → Option Value}, (∀ v, (x, v) ∉ binds) → bindL kindOf binds m x = m x
  | [], _, _ => rfl
  | (n, v) :: r, m, h => by
    unfold bindL
    rw [bindL_out fun w hw => h w (List.mem_cons_of_mem _ hw)]
    split
    · have : x ≠ n := by rintro rfl; exact h v List.mem_cons_self
      simp [this]
    · rfl
theorem bindC_out {kindOf : Str → Option NameKind} {x : Str} : ∀ {binds : List (Str × Value)} {m : Str → Option Value}, (∀ v, (x, v) ∉ binds) → bindC kindOf binds m x = m x
  | [], _, _ => rfl
  | (n, v) :: r, m, h => by
    unfold bindC
    rw [bindC_out fun w hw => h w (List.mem_cons_of_mem _ hw)]
    split
    · rfl
    · have : x ≠ n := by rintro rfl; exact h v List.mem_cons_self
      simp [this]
theorem bindL_get {kindOf : Str → Option NameKind} {x : Str} {v : Value} : ∀ {P : List Str} {vs : List Value} {i : Nat} {m : Str → Option Value}, P.Nodup → P[i]? = some x → vs[i]? = some v → kindOf x = some .local →
    bindL kindOf (P.zip vs) m x = some v
  | [], _, _, _, _, h, _, _ => by simp at h
  | _ :: _, [], _, _, _, _, h, _ => by simp at h
  | p :: P, w :: vs, 0, m, nd, h1, h2, hk => by
    simp at h1 h2; subst h1; subst h2
    show bindL kindOf ((p, w) :: P.zip vs) m p = _
    unfold bindL
    rw [bindL_out fun v hv => (List.nodup_cons.mp nd).1 (List.of_mem_zip hv).1, if_pos hk]
    simp
  | p :: P, w :: vs, i + 1, m, nd, h1, h2, hk => by
    show bindL kindOf ((p, w) :: P.zip vs) m x = _
    unfold bindL
    exact bindL_get (i := i) (List.nodup_cons.mp nd).2 (by simpa using h1) (by simpa using h2) hk
theorem bindC_get {kindOf : Str → Option NameKind} {x : Str} {v : Value} : ∀ {P : List Str} {vs : List Value} {i : Nat} {m : Str → Option Value}, P.Nodup → P[i]? = some x → vs[i]? = some v → kindOf x ≠ some .local →
    bindC kindOf (P.zip vs) m x = some v
  | [], _, _, _, _, h, _, _ => by simp at h
  | _ :: _, [], _, _, _, _, h, _ => by simp at h
  | p :: P, w :: vs, 0, m, nd, h1, h2, hk => by
    simp at h1 h2; subst h1; subst h2
    show bindC kindOf ((p, w) :: P.zip vs) m p = _
    unfold bindC
    rw [bindC_out fun v hv => (List.nodup_cons.mp nd).1 (List.of_mem_zip hv).1, if_neg hk]
    simp
  | p :: P, w :: vs, i + 1, m, nd, h1, h2, hk => by
    show bindC kindOf ((p, w) :: P.zip vs) m x = _
    unfold bindC
    exact bindC_get (i := i) (List.nodup_cons.mp nd).2 (by simpa using h1) (by simpa using h2) hk

/-- the names' values at the entry -/
def start (N : List Str) (vs : List V) : St := vs.map some ++ List.replicate (N.length - vs.length) none

/-- the context of a def's body, at its entry; an exception leaves the frame, then lies as CX says -/
def cxOf (CX : CXT) (P : Program) (w : World) (K : PySem.W.Frag) (mg : Str → Option Value) (base : Heap) (N : List Str) (qual : Str) (scope : Scope) (f : Addr) (cd : Value) (A : Around) (outer : List Env) (s : Shared) (H : Hp) (E : XK) : Cx where
  prog := P
  w := w
  K := K
  mg := mg
  base := base
  A := A.deeper (envOfC qual scope s.heap.objs.size f cd)
  N := N
  s₀ := s
  H₀ := H
  env := envOfC qual scope s.heap.objs.size f cd
  outer := outer
  stack := envOfC qual scope s.heap.objs.size f cd :: outer
  ex := []
  calm := true
  fn := fun _ => true
  pn := []
  xe := fun e s' => wpAny (model P w) (A.deeper (envOfC qual scope s.heap.objs.size f cd)) (leaving (envOfC qual scope s.heap.objs.size f cd) e) (fun _ s'' => CX outer H s E e s'') (fun e' s'' => CX outer H s E e' s'') s'

theorem cell_has {sc : Scope} {n : Nat} {x : Str} (h : sc.names.lookup x = some .cell) : ∃ c, (cellsFrom n sc.names []).lookup x = some c := by
  have q := PySem.W.cellsFrom_some sc.names n [] (.inl h)
  exact Option.isSome_iff_exists.mp q

theorem inv_start {CX : CXT} {P : Program} {w : World} {K : PySem.W.Frag} {mg : Str → Option Value} {base : Heap} {N ps : List Str} {qual : Str} {scope : Scope} {f : Addr} {cd : Value} {A : Around} {outer : List Env} {s s1 : Shared} {H : Hp} {E : XK} {us : List Value} {vs : List V}
    (S : FnScope N ps scope) (hd : A.handled = none) (e0 : Env0 P w K mg base A outer s H) (hl : vs.length = ps.length) (r : Vals vs us)
    (x : InCallC s s.heap.objs.size (bindL (envOfC qual scope s.heap.objs.size f cd).kindOf (ps.zip us) fun _ => none) (cellsFrom (s.heap.objs.size + 1) scope.names []) (bindC (envOfC qual scope s.heap.objs.size f cd).kindOf (ps.zip us) fun _ => none) s1) :
    Inv (cxOf CX P w K mg base N qual scope f cd A outer s H E) [] (start N vs) H s1 := by
  have hpl : ps.length ≤ N.length := by have := congrArg List.length S.pre; rw [List.length_take] at this; omega
  obtain ⟨h1, tk, rfl, hk⟩ := x.done
  have noA : ∀ b : Addr, b ∉ (cxOf CX P w K mg base N qual scope f cd A outer s H E).ex := fun b z => absurd (show b ∈ ([] : List Addr) from z) (by simp)
  refine ⟨⟨e0.mod, S.kind, rfl, rfl, Nat.le_refl _, fun y z c h1 h2 => ?_, fun y hy => ?_, fun y c _ h => ?_, fun _ => hd, Around.frames_deeper e0.frames, .inr ⟨rfl, rfl⟩, fun b z => absurd z (noA b), e0.bs, e0.bsz, fun b _ _ => noA b, fun b z => absurd z (noA b), e0.funs, e0.frf⟩,
    rfl, e0.bare, Un.kept hk, ⟨_, x.toInCall.ns, fun i y v h1 h2 h3 => ?_⟩, fun y c h => ⟨_, x.cell y c h⟩, e0.hok.fresh (Nat.le_refl _), fun y c h => ?_, fun p hp => absurd (show p ∈ ([] : List (Addr × Obj)) from hp) (by simp), e0.hok.kept hk, ?_⟩
  · exact name_of_addr x.apart (PySem.mem_of_lookup h1) (PySem.mem_of_lookup h2)
  · have hy : scope.names.lookup y = some .cell ∨ scope.names.lookup y = some .free := hy
    rcases hy with hy | hy
    · exact cell_has hy
    · exact absurd rfl (S.nofree _ (PySem.mem_of_lookup hy))
  · exact Nat.le_of_lt (x.above y c (PySem.mem_of_lookup h))
  · have hi : i < vs.length := by
      unfold start at h2
      by_cases hi : i < vs.length
      · exact hi
      · rw [List.getElem?_append_right (by simpa using hi)] at h2
        rw [List.getElem?_replicate] at h2
        split at h2 <;> cases h2
    have ha : vs[i]? = some v := by
      unfold start at h2
      rw [List.getElem?_append_left (by simpa using hi), List.getElem?_map] at h2
      cases e : vs[i]? with
      | none => rw [e] at h2; cases h2
      | some a => rw [e] at h2; cases h2; rfl
    obtain ⟨u, hu, rv⟩ := r.get ha
    have hp : ps[i]? = some y := by
      rw [← S.pre, List.getElem?_take_of_lt (by omega)]; exact h1
    have ndP : ps.Nodup := by rw [← S.pre]; exact S.nd.sublist (List.take_sublist _ _)
    refine ⟨u, rv, ?_⟩
    rcases S.par y (List.mem_of_getElem? hp) with k | k
    · exact .inl ⟨k, bindL_get ndP hp hu k⟩
    · obtain ⟨c, e⟩ := cell_has (n := s.heap.objs.size + 1) k
      refine .inr ⟨.inl k, c, e, ?_⟩
      have q := x.cell y c e
      rw [bindC_get ndP hp hu (by show scope.names.lookup y ≠ _; rw [k]; decide)] at q
      exact q
  · exact e0.hok.fresh (Nat.le_of_lt (x.above y c (PySem.mem_of_lookup h)))
  · unfold start
    show _ = N.length
    rw [List.length_append, List.length_map, List.length_replicate]
    omega

/-- THE RULE: a def (or a method) of the text, by its body. The body's reading t is chosen for each entry; it is run at the parameters' values -/
theorem fn_of {CX : CXT} {P : Program} {w : World} {K : PySem.W.Frag} {mg : Str → Option Value} {base : Heap} {k : Nat} {f : Addr} {name qual : Str} {params : Arguments} {body : List Stmt} {scope : Scope} {dV kV doc pm cdv ct oc : Value} {an od : Option Addr}
    {osl : Array (Option Value)} {N ps : List Str} {sp : Sp} (lk : K.lookup f = some ⟨oc, od, .func (PySem.W.fnOf name qual params body scope dV kV doc pm an cdv ct), osl⟩) (hcd : PySem.W.codeIn K cdv qual = true) (S : FnScope N ps scope)
    (len : ∀ vs H Q E, sp vs H Q E → vs.length = ps.length)
    (hbody : ∀ (A : Around) (outer : List Env) (s : Shared) (H : Hp) (vs : List V) (Q : VK) (E : XK), Room k (A.deeper (envOfC qual scope s.heap.objs.size f cdv)) → sp vs H Q E →
      ∃ t, PSs (cxOf CX P w K mg base N qual scope f cdv A outer s H E) body t ∧ t { nx := fun _ H' => Q .non H', rt := Q } (start N vs) H) :
    FnOk P w K mg base CX (k + 1) f (PySem.W.fnOf name qual params body scope dV kV doc pm an cdv ct) ps sp := by
  refine ⟨len, fun A outer s H args us vs Q E hr e0 hb r hsp => ?_⟩
  have hl := len _ _ _ _ hsp
  have KX : K.In s.heap := e0.mod.kin.keeps fun b o e => (e0.bs b o e).1
  have lim : s.heap.NoLimit := e0.mod.nolimit.keeps fun b o e => (e0.bs b o e).1
  have hkind : ∀ y ∈ ps.zip us, scope.names.lookup y.1 = some .local ∨ (scope.names.lookup y.1 = some .cell ∧ ((cellsFrom (s.heap.objs.size + 1) scope.names []).lookup y.1).isSome = true) := fun ⟨n, v⟩ hy => by
    rcases S.par n (List.of_mem_zip hy).1 with q | q
    · exact .inl q
    · exact .inr ⟨q, PySem.W.cellsFrom_some _ _ _ (.inl q)⟩
  refine codeAny_call_function hr.depth (KX _ _ lk) rfl S.co S.gen rfl (PySem.W.codeRec_of KX hcd) (hb _ _ _ _ ?_)
  refine wpAny_newFunctionEnv_cells S.kind hkind fun env he s1 x => ?_
  subst he
  refine ⟨lim.keeps x.toInCall.keep, codeAny_func ?_⟩
  obtain ⟨t, ht, hq⟩ := hbody A outer s H vs Q E (hr.deeper _) hsp
  have I : Inv (cxOf CX P w K mg base N qual scope f cdv A outer s H E) [] (start N vs) H s1 := inv_start S hr.hd e0 hl r x
  refine wpAny_mono (ht [] s1 (start N vs) H _ I hq) (fun fl s' hs => ?_) fun e s' hs => hs
  have fin : ∀ {σ' : St} {H' : Hp} {v : V} {u : Value}, Inv (cxOf CX P w K mg base N qual scope f cdv A outer s H E) [] σ' H' s' → RelV v u → Q v H' → CE outer P w H s Q u s' :=
    fun {σ' H' v u} J rv q => ⟨v, H', J.os, J.bare, J.base, J.hok, rv, q⟩
  cases fl with
  | ret u =>
    obtain ⟨v, σ', H', J, rv, q⟩ := hs
    exact fin J rv q
  | next =>
    obtain ⟨σ', H', J, q⟩ := hs
    exact fin (v := V.non) (u := Value.none) J rfl q
  | brk =>
    obtain ⟨_, _, _, q⟩ := hs
    exact False.elim q
  | cont =>
    obtain ⟨_, _, _, q⟩ := hs
    exact False.elim q
end L2

namespace L2
open PySem PySem.Spec PyProof.Rows
section
variable {X : Cx} {x : Str} {p pos : Pos} {e : Expr} {es : List Expr} {t : TA} {id T : String} {r : List V → Hp → VK → Prop}

def tCB (r : List V → Hp → VK → Prop) (t : TA) : TE := fun σ H Q => t σ H fun vs H1 => r vs H1 Q
/-- f(e, ..), f a built-in function -/
theorem pe_callB (hc : CallR X (.builtin id) r) (hg : Gl X x) (hm : X.mg x = none) (hv : bootBuiltins x = some (.builtin id)) (ha : PA X (e :: es) t) (hn : x ≠ "__name__" := by decide) (hdb : (x == ("__debug__" : Str)) = false := by decide)
    (he : starEach (e :: es) X.env = (false, eval e X.env) :: starEach es X.env := by rfl) (hpl : (backTo pos (starEach es X.env)).any (·.1) = false := by rfl) : PE X (.Call (.Name x p) (e :: es) [] pos) (tCB r t) := by
  intro pins s σ H Q I h
  refine wpAny_Call_Name_kw (ld_blt I hg hm hv ?_ hn hdb)
  exact PyProof.Rows.callWith_builtin1 (thn (ha pos pins s σ H _ I h) fun us s1 ⟨vs, H1, I1, r1, q1⟩ => hc pins s1 σ H1 vs us Q I1 r1 q1) he hpl
/-- T(e, ..), T a built-in type -/
theorem pe_callTy (hc : CallR X (.type T) r) (hg : Gl X x) (hm : X.mg x = none) (hv : bootBuiltins x = some (.type T)) (ha : PA X (e :: es) t) (hn : x ≠ "__name__" := by decide) (hdb : (x == ("__debug__" : Str)) = false := by decide)
    (he : starEach (e :: es) X.env = (false, eval e X.env) :: starEach es X.env := by rfl) (hpl : (backTo pos (starEach es X.env)).any (·.1) = false := by rfl) : PE X (.Call (.Name x p) (e :: es) [] pos) (tCB r t) := by
  intro pins s σ H Q I h
  refine wpAny_Call_Name_kw (ld_blt I hg hm hv ?_ hn hdb)
  exact PyProof.Rows.callWith_type1 (thn (ha pos pins s σ H _ I h) fun us s1 ⟨vs, H1, I1, r1, q1⟩ => hc pins s1 σ H1 vs us Q I1 r1 q1) he hpl
end
end L2

namespace HT
open PySem PyProof.Rows



section
open PySem.SeqAt
open PySem.AutoSeq1 (wpAny_loadPart')
open PySem.MeetsSeq PySem.MeetsSeq2 PySem.MeetsSeq3

end

section
variable {prog : Program} {w : World} {A : Around} {E : Value → Shared → Prop} {s : Shared}



/-! ### t[a:b], not the whole -/
/-- a slice's bound as a place among n (d where it is left out) -/
def sIx (n d : Nat) : Option Int → Nat
  | none => d
  | some v => if v < 0 then (v + (n : Int)).toNat else min v.toNat n

end
end HT

namespace L2
open PySem PySem.Spec PyProof.Rows

/-! ### the parts of a slice -/
abbrev TO := St → Hp → (Option Int → Hp → Prop) → Prop
/-- a slice's part (left out, or an int) -/
def PO (X : Cx) (e : Option Expr) (t : TO) : Prop :=
  ∀ (pins : List (Addr × Obj)) (s : Shared) (σ : St) (H : Hp) (Q : Option Int → Hp → Prop), Inv X pins σ H s → t σ H Q →
    wpAny (model X.prog X.w) X.A (evalPart e X.env) (fun u s' => ∃ o H', Inv X pins σ H' s' ∧ IsPart u o ∧ Q o H') X.xe s
def tNoPart : TO := fun _ H Q => Q none H
def tPart (t : TE) : TO := fun σ H Q => t σ H fun x H1 => ∃ i, x = .int i ∧ Q (some i) H1


section
variable {X : Cx} {e : Expr} {te : TE} {lo hi : Option Expr} {tl th : TO} {pos p2 : Pos}

theorem po_none : PO X none tNoPart := by
  intro pins s σ H Q I h
  rw [evalPart_none]
  exact wpAny_pure ⟨none, H, I, .none, h⟩
theorem po_some (h : PE X e te) : PO X (some e) (tPart te) := by
  intro pins s σ H Q I hw
  rw [evalPart_some]
  refine thn (h pins s σ H _ I hw) fun u s1 ⟨x, H1, I1, r1, q1⟩ => ?_
  obtain ⟨i, rfl, q⟩ := q1
  obtain ⟨t, rfl⟩ := r1
  exact ⟨some i, H1, I1, .int i t, q⟩

/-- what a slice of a value is, by values: the slice object stands at sl -/
def SlR (X : Cx) (r : V → Option Int → Option Int → Hp → VK → Prop) : Prop :=
  ∀ (pins : List (Addr × Obj)) (s : Shared) (σ : St) (H : Hp) (x : V) (v vl vu : Value) (lo hi : Option Int) (sl : Addr) (Q : VK), Inv X pins σ H s → RelV x v → s.heap.IsSliceOf sl vl vu .none → IsPart vl lo → IsPart vu hi → r x lo hi H Q →
    ∃ T id, typeLookup (.type T) "__getitem__" = pure (some (.builtin id)) ∧ s.TypeIs v T ∧ wpAny (model X.prog X.w) X.A (getItem v (.ref sl)) (EP X pins σ Q) X.xe s
theorem SlR.or {r r' : V → Option Int → Option Int → Hp → VK → Prop} (h : SlR X r) (h' : SlR X r') : SlR X (fun x lo hi H Q => r x lo hi H Q ∨ r' x lo hi H Q) := by
  intro pins s σ H x v vl vu lo hi sl Q I rx hs pl pu q
  rcases q with q | q
  · exact h pins s σ H x v vl vu lo hi sl Q I rx hs pl pu q
  · exact h' pins s σ H x v vl vu lo hi sl Q I rx hs pl pu q
def tSl (r : V → Option Int → Option Int → Hp → VK → Prop) (te : TE) (tl th : TO) : TE := fun σ H Q => te σ H fun x H1 => tl σ H1 fun l H2 => th σ H2 fun u H3 => r x l u H3 Q
/-- a[lo:hi], any a -/
theorem pe_slice {r : V → Option Int → Option Int → Hp → VK → Prop} (hr : SlR X r) (he : PE X e te) (hl : PO X lo tl) (hu : PO X hi th) : PE X (.Subscript e (.Slice lo hi none p2) pos) (tSl r te tl th) := by
  intro pins s σ H Q I h
  refine Subscript_ (thn (he pins s σ H _ I h) fun v s1 ⟨x, H1, I1, r1, q1⟩ => ?_)
  refine wpAny_Slice (thn (hl pins s1 σ H1 _ I1 q1) fun vl s2 ⟨l, H2, I2, pl, q2⟩ => thn (hu pins s2 σ H2 _ I2 q2) fun vu s3 ⟨u, H3, I3, pu, q3⟩ => ?_)
  rw [evalPart_none]
  refine wpAny_pure ?_
  have I4 : Inv X pins σ H3 { s3 with heap := s3.heap.push { cls := .type "slice", data := .fields #[vl, vu, .none] } } := I3.kept (t' := s3.toks) fun b ob q => Heap.get?_push_of_some _ q
  obtain ⟨T, id, hT, ht, hg⟩ := hr pins { s3 with heap := s3.heap.push { cls := .type "slice", data := .fields #[vl, vu, .none] } } σ H3 x v vl vu l u s3.heap.objs.size Q I4 r1 (Heap.IsSliceOf.new ..) pl pu q3
  show wpAny (model X.prog X.w) X.A (subscriptTail e (.Slice lo hi none p2) v (.ref s3.heap.objs.size)) (EP X pins σ Q) X.xe { s3 with heap := s3.heap.push { cls := .type "slice", data := .fields #[vl, vu, .none] } }
  exact tail_any (ops := [.ref s3.heap.objs.size, v]) ht hT hg (by with_unfolding_all rfl)

/-- the items of xs[lo:hi] -/
def cutV (xs : List V) (lo hi : Option Int) : List V := (xs.drop (HT.sIx xs.length 0 lo)).take (HT.sIx xs.length xs.length hi - HT.sIx xs.length 0 lo)
theorem cutV_length (xs : List V) (lo hi : Option Int) : (cutV xs lo hi).length ≤ xs.length := by
  unfold cutV
  rw [List.length_take, List.length_drop]
  omega

/-! ### t < u, t + u -/
end
end L2

namespace L2
open PySem PySem.Spec PyProof.Rows

/-! ### places -/
/-- the place that an index of any sign means -/
def ixN (n : Nat) (i : Int) : Option Nat := if 0 ≤ i then (if i < n then some i.toNat else none) else if -(n : Int) ≤ i then some (i + n).toNat else none
def atI {α : Type} (xs : List α) (i : Int) : Option α := (ixN xs.length i).bind fun j => xs[j]?
theorem ixN_seq {n : Nat} {i : Int} {j : Nat} (h : ixN n i = some j) : seqIndex? i n = some j ∧ j < n ∧ -(n : Int) ≤ i ∧ i < n := by
  unfold ixN at h
  by_cases h0 : 0 ≤ i
  · rw [if_pos h0] at h
    by_cases h1 : i < n
    · rw [if_pos h1] at h
      have e : i.toNat = j := Option.some.inj h
      exact ⟨by rw [seqIndex_of h0 h1, e], by omega, by omega, h1⟩
    · rw [if_neg h1] at h; cases h
  · rw [if_neg h0] at h
    by_cases h1 : -(n : Int) ≤ i
    · rw [if_pos h1] at h
      have e : (i + n).toNat = j := Option.some.inj h
      exact ⟨by rw [seqIndex_neg (by omega) h1, e], by omega, h1, by omega⟩
    · rw [if_neg h1] at h; cases h
theorem atI_get {α : Type} {xs : List α} {i : Int} {v : α} (h : atI xs i = some v) : ∃ j, seqIndex? i xs.length = some j ∧ xs[j]? = some v ∧ j < xs.length ∧ -(xs.length : Int) ≤ i ∧ i < xs.length := by
  unfold atI at h
  cases e : ixN xs.length i with
  | none => rw [e] at h; cases h
  | some j =>
    rw [e] at h
    obtain ⟨h1, h2, h3, h4⟩ := ixN_seq e
    exact ⟨j, h1, h, h2, h3, h4⟩
theorem atI_nat {α : Type} {xs : List α} {j : Nat} {v : α} (h : xs[j]? = some v) : atI xs (j : Int) = some v := by
  have hj : j < xs.length := (List.getElem?_eq_some_iff.mp h).1
  have e : ixN xs.length (j : Int) = some j := by
    unfold ixN
    rw [if_pos (by omega), if_pos (by omega)]; simp
  unfold atI; rw [e]; exact h

/-! ### what may be subscripted -/
/-- what stands as an index of a plain subscript -/
def PlainIx (b : Expr) : Prop := ∀ o i, subscripted b false o i = operate [o, i] (getItem o i)
/-- a subscript by values -/
def IxR (X : Cx) (r : R2) : Prop :=
  ∀ (value slice : Expr) (pins : List (Addr × Obj)) (s : Shared) (σ : St) (H : Hp) (x y : V) (v u : Value) (Q : VK), Inv X pins σ H s → RelV x v → RelV y u → r x y H Q →
    subscripted slice false v u = operate [v, u] (getItem v u) → wpAny (model X.prog X.w) X.A (subscriptTail value slice v u) (EP X pins σ Q) X.xe s
/-- a call of a builtin's method by values: the receiver, the arguments -/
def MtR (X : Cx) (id : String) (r : V → List V → Hp → VK → Prop) : Prop :=
  ∀ (pins : List (Addr × Obj)) (s : Shared) (σ : St) (H : Hp) (x : V) (xs : List V) (v : Value) (us : List Value) (Q : VK), Inv X pins σ H s → RelV x v → Vals xs us → r x xs H Q →
    wpAny (model X.prog X.w) X.A (call (.builtin id) (v :: us)) (EP X pins σ Q) X.xe s
section
variable {X : Cx} {a b : Expr} {ta tb : TE} {pos : Pos}
theorem IxR.or {r r' : R2} (h : IxR X r) (h' : IxR X r') : IxR X (fun x y H Q => r x y H Q ∨ r' x y H Q) := by
  intro value slice pins s σ H x y v u Q I rx ry q hs
  rcases q with q | q
  · exact h value slice pins s σ H x y v u Q I rx ry q hs
  · exact h' value slice pins s σ H x y v u Q I rx ry q hs
theorem MtR.or {id : String} {r r' : V → List V → Hp → VK → Prop} (h : MtR X id r) (h' : MtR X id r') : MtR X id (fun x xs H Q => r x xs H Q ∨ r' x xs H Q) := by
  intro pins s σ H x xs v us Q I rx rs q
  rcases q with q | q
  · exact h pins s σ H x xs v us Q I rx rs q
  · exact h' pins s σ H x xs v us Q I rx rs q
/-- a[b] -/
theorem pe_ix {r : R2} (hr : IxR X r) (ha : PE X a ta) (hb : PE X b tb) (hs : PlainIx b) : PE X (.Subscript a b pos) (tOp r ta tb) := by
  intro pins s σ H Q I h
  exact Subscript_ (binT ha hb I h fun v u s2 x y H2 I2 rx ry q => hr a b pins s2 σ H2 x y v u Q I2 rx ry q (hs _ _))

def rIxL (K : PySem.W.Frag) : R2 := fun x y H Q => ∃ p xs i v, x = .ref p ∧ y = .int i ∧ SqL K H p xs ∧ atI xs i = some v ∧ Q v H
def rIxT (K : PySem.W.Frag) : R2 := fun x y H Q => ∃ p xs i v, x = .ref p ∧ y = .int i ∧ SqT K H p xs ∧ atI xs i = some v ∧ Q v H
def rIxS : R2 := fun x y H Q => ∃ z i c, x = .str z ∧ y = .int i ∧ z.length ≤ sizeLine ∧ atI z.cps.toList i = some c ∧ Q (.str ⟨#[c]⟩) H
theorem ix_list : IxR X (rIxL X.K) := by
  intro value slice pins s σ H x y v u Q I rx ry h hs
  obtain ⟨p, xs, i, z, rfl, rfl, hq, he, q⟩ := h
  cases rx
  obtain ⟨t, rfl⟩ := ry
  obtain ⟨its, r, pl, hz⟩ := I.list hq
  obtain ⟨j, h1, h2, h3, h4, h5⟩ := atI_get he
  obtain ⟨w, ew, rw'⟩ := r.get h2
  have hl := r.length
  have hn := line63
  have fin : EP X pins σ Q w s := ⟨z, H, I, rw', q⟩
  by_cases h0 : 0 ≤ i
  · have hj : i.toNat = j := by
      rw [seqIndex_of h0 h5] at h1
      exact Option.some.inj h1
    exact item_listR pl.isList h0 (by omega) (by rw [hj]; simpa using ew) fin hs
  · have hj : (i + (its.toArray.size : Int)).toNat = j := by
      rw [seqIndex_neg (by omega) h4] at h1
      rw [List.size_toArray, ← hl]
      exact Option.some.inj h1
    exact subscriptTail_builtinR (x := w) pl.isList.typeIs slot_list_getitem.lookup
      (wpAny_getItem_list_neg (Q := fun r s' => r = w ∧ EP X pins σ Q r s') pl.isList (by omega) (by rw [List.size_toArray] <;> omega) (by omega) (by rw [hj]; simpa using ew) ⟨rfl, fin⟩) hs
theorem ix_tup : IxR X (rIxT X.K) := by
  intro value slice pins s σ H x y v u Q I rx ry h hs
  obtain ⟨p, xs, i, z, rfl, rfl, hq, he, q⟩ := h
  cases rx
  obtain ⟨t, rfl⟩ := ry
  obtain ⟨its, r, pl, hz⟩ := I.tuple hq
  obtain ⟨j, h1, h2, h3, h4, h5⟩ := atI_get he
  obtain ⟨w, ew, rw'⟩ := r.get h2
  have hl := r.length
  have hn := line63
  have fin : EP X pins σ Q w s := ⟨z, H, I, rw', q⟩
  exact subscriptTail_builtinR (x := w) pl.typeIs slot_tuple_getitem.lookup
    (getItem_tuple (j := j) (Q := fun r s' => r = w ∧ EP X pins σ Q r s') pl (by omega) (by omega) (by rw [List.size_toArray, ← hl]; exact h1) (by simpa using ew) ⟨rfl, fin⟩) hs
theorem ix_str : IxR X rIxS := by
  intro value slice pins s σ H x y v u Q I rx ry h hs
  obtain ⟨z, i, c, rfl, rfl, hz, he, q⟩ := h
  obtain ⟨t, rfl⟩ := rx
  obtain ⟨t', rfl⟩ := ry
  obtain ⟨j, h1, h2, h3, h4, h5⟩ := atI_get he
  have hl : z.cps.toList.length = z.length := by simp [Str.length]
  rw [hl] at h1 h4 h5
  have hn := line63
  exact tail_any (typeIs_str s z t) slot_str_getitem.lookup (getItem_str (c := c) (by
    have e1 : decide (i < -(2 ^ 63 : Int)) = false := decide_eq_false (by omega)
    have e2 : decide (i ≥ 2 ^ 63) = false := decide_eq_false (by omega)
    rw [e1, e2, Bool.or_false]) (by rw [h1]; simpa using h2) ⟨.str ⟨#[c]⟩, H, I.tok _, ⟨_, rfl⟩, q⟩) hs
/-- list, tuple or str -/
def rIx (K : PySem.W.Frag) : R2 := fun x y H Q => rIxL K x y H Q ∨ rIxT K x y H Q ∨ rIxS x y H Q
theorem ix_seq : IxR X (rIx X.K) := ix_list.or (ix_tup.or ix_str)

/-! ### xs[i] = v, any sign -/
theorem Inv.lst {pins : List (Addr × Obj)} {σ : St} {H : Hp} {s : Shared} {p : Addr} {xs : List V} (I : Inv X pins σ H s) (h : H p = some (.lst xs)) :
    ∃ (its : List Value) (n : Nat), Vals xs its ∧ s.heap.get? p = some { cls := .type "list", data := .seq its.toArray n } ∧ xs.length ≤ sizeLine := by
  obtain ⟨z, its, n, r, e⟩ := I.hok p _ h
  exact ⟨its, n, r, e, z⟩

/-! ### slices -/
theorem slice_bounds (lo hi : Option Int) (n : Nat) : (sliceBounds lo hi none n).1 = ((HT.sIx n 0 lo : Nat) : Int) ∧ (sliceBounds lo hi none n).2.1 = ((HT.sIx n n hi : Nat) : Int) ∧ (sliceBounds lo hi none n).2.2 = 1 := by
  refine ⟨?_, ?_, rfl⟩
  · cases lo with
    | none => simp [sliceBounds, HT.sIx]
    | some i =>
      simp only [sliceBounds, HT.sIx, Option.getD_none, show (1 : Int) > 0 by decide, if_true]
      by_cases h : i < 0
      · simp only [h, if_true] <;> omega
      · simp only [h, if_false] <;> omega
  · cases hi with
    | none => simp [sliceBounds, HT.sIx]
    | some i =>
      simp only [sliceBounds, HT.sIx, Option.getD_none, show (1 : Int) > 0 by decide, if_true]
      by_cases h : i < 0
      · simp only [h, if_true] <;> omega
      · simp only [h, if_false] <;> omega
theorem slicePick_cut (its : List Value) (lo hi : Option Int) : slicePick its.toArray lo hi none = ((its.drop (HT.sIx its.length 0 lo)).take (HT.sIx its.length its.length hi - HT.sIx its.length 0 lo)).toArray := by
  obtain ⟨h1, h2, h3⟩ := slice_bounds lo hi its.toArray.size
  unfold slicePick
  rw [h1, h2, h3]
  simp only [sliceRange_one, pick_run, List.size_toArray] <;> rfl
/-- xs[lo:hi] of a list: a new list -/
def rSlL (K : PySem.W.Frag) : V → Option Int → Option Int → Hp → VK → Prop := fun x lo hi H Q => ∃ a xs, x = .ref a ∧ SqL K H a xs ∧ ∀ p, H p = none → Q (.ref p) (upd H p (.lst (cutV xs lo hi)))
theorem sl_list : SlR X (rSlL X.K) := by
  intro pins s σ H x v vl vu lo hi sl Q I rx hs pl pu h
  obtain ⟨a, xs, rfl, hx, q⟩ := h
  cases rx
  obtain ⟨its, r, ht, hz⟩ := I.list hx
  have hlen := r.length
  refine ⟨"list", _, slot_list_getitem.lookup, ht.isList.typeIs, ?_⟩
  refine wpAny_getItem_list_slice ht.isList hs pl pu .none (by simp) ?_ (by rw [List.size_toArray] <;> omega)
  rw [slicePick_cut, ← hlen]
  refine ⟨.ref s.heap.objs.size, _, I.laid (t' := s.toks) (o := .lst (cutV xs lo hi)) (fun b ob q => Heap.get?_push_of_some _ q) (Nat.le_refl _) ?_, rfl, q _ (I.hok.fresh (Nat.le_refl _))⟩
  exact ⟨Nat.le_trans (cutV_length xs lo hi) hz, _, 0, (r.drop (HT.sIx xs.length 0 lo)).take (HT.sIx xs.length xs.length hi - HT.sIx xs.length 0 lo), Heap.get?_push_size _ rfl⟩

/-! ### in, not in: flat items -/

/-! ### len, list(x), tuple(x) of any list or tuple that is read -/
theorem CallR.or {f : Value} {r r' : List V → Hp → VK → Prop} (h : CallR X f r) (h' : CallR X f r') : CallR X f (fun xs H Q => r xs H Q ∨ r' xs H Q) := by
  intro pins s σ H xs us Q I rs q
  rcases q with q | q
  · exact h pins s σ H xs us Q I rs q
  · exact h' pins s σ H xs us Q I rs q
theorem call_tuple_of : CallR X (.type "tuple") (fun xs H Q => ∃ p ys, xs = [.ref p] ∧ ((SqL X.K H p ys ∧ ∀ l, H l = none → Q (.ref l) (upd H l (.tup ys))) ∨ (SqT X.K H p ys ∧ Q (.ref p) H))) := by
  intro pins s σ H xs us Q I r h
  obtain ⟨p, ys, rfl, h⟩ := h
  obtain ⟨u, rfl, rx⟩ := vals1 r
  cases rx
  rcases h with ⟨hq, q⟩ | ⟨hq, q⟩
  · obtain ⟨its, r', pl, hz⟩ := I.list hq
    have hlen := r'.length
    refine call_tuple_list pl.isList (fun h' kp => ?_) (by simp only [List.size_toArray] <;> omega)
    have I1 : Inv X pins σ H { s with heap := h' } := I.kept (t' := s.toks) kp
    have I2 : Inv X pins σ (upd H h'.objs.size (.tup ys)) { s with heap := h'.push { cls := .type "tuple", data := .seq its.toArray } } :=
      I1.laid (t' := s.toks) (fun b o e => Heap.get?_push_of_some _ e) (Nat.le_refl _) (show ObjOk X.prog X.w _ _ _ (.tup ys) from ⟨hz, its, r', TupN.new _ _⟩)
    exact ⟨.ref h'.objs.size, _, I2, rfl, q _ (I1.hok.fresh (Nat.le_refl _))⟩
  · obtain ⟨its, r', pl, hz⟩ := I.tuple hq
    exact call_tuple_same pl ⟨.ref p, H, I, rfl, q⟩

/-! ### the call of a builtin's method: o.m(..) -/
/-- the value is of that builtin type -/
def tyV (K : PySem.W.Frag) (T : String) (x : V) (H : Hp) : Prop := match x with
  | .str _ => T = "str"
  | .int _ => T = "int"
  | .ref p => (T = "list" ∧ ∃ xs, SqL K H p xs) ∨ (T = "tuple" ∧ ∃ o, K.lookup p = some o ∧ o.cls = .type "tuple" ∧ o.dict = none) ∨
      (T = "dict" ∧ ((∃ kvs, H p = some (.dK kvs)) ∨ ∃ kvs, H p = some (.dT kvs))) ∨ (T = "set" ∧ ∃ S n, H p = some (.set S n))
  | _ => False
theorem tyV_is {pins : List (Addr × Obj)} {σ : St} {H : Hp} {s : Shared} {T : String} {x : V} {v : Value} (I : Inv X pins σ H s) (r : RelV x v) (ty : tyV X.K T x H) :
    s.TypeIs v T ∧ ∀ a, v = .ref a → ∃ ob, s.heap.get? a = some ob ∧ ob.dict = none := by
  cases x with
  | str z =>
    obtain ⟨t, rfl⟩ := r
    cases (show T = "str" from ty)
    exact ⟨typeIs_str s z t, fun _ e => nomatch e⟩
  | int i =>
    obtain ⟨t, rfl⟩ := r
    cases (show T = "int" from ty)
    exact ⟨typeIs_int s i t, fun _ e => nomatch e⟩
  | ref p =>
    cases r
    rcases ty with ⟨rfl, xs, hq⟩ | ⟨rfl, o, hk, hc, hd⟩ | ⟨rfl, hk⟩ | ⟨rfl, S, n, hk⟩
    · obtain ⟨its, _, pl, _⟩ := I.list hq
      refine ⟨pl.isList.typeIs, fun a e => ?_⟩
      cases e
      obtain ⟨o, n, e, c, hd, _⟩ := pl
      exact ⟨o, e, hd⟩
    · refine ⟨⟨o, I.kIn p o hk, hc⟩, fun a e => ?_⟩
      cases e
      exact ⟨o, I.kIn _ o hk, hd⟩
    · have z : ∃ o, s.heap.get? p = some o ∧ o.ExactDict := by
        rcases hk with ⟨kvs, hk⟩ | ⟨kvs, hk⟩
        · obtain ⟨_, _, _, _, o, _, _, e, ex, _⟩ := I.hok p _ hk
          exact ⟨o, e, ex⟩
        · obtain ⟨_, _, _, _, o, _, _, e, ex, _⟩ := I.hok p _ hk
          exact ⟨o, e, ex⟩
      obtain ⟨o, e, ex⟩ := z
      refine ⟨⟨o, e, ex.1⟩, fun a e2 => ?_⟩
      cases e2
      exact ⟨o, e, ex.2.1⟩
    · obtain ⟨o, _, _, _, e, ex, _⟩ := I.hok p _ hk
      refine ⟨⟨o, e, ex.1⟩, fun a e2 => ?_⟩
      cases e2
      exact ⟨o, e, ex.2.1⟩
  | _ => exact False.elim ty
def tBM (K : PySem.W.Frag) (T : String) (r : V → List V → Hp → VK → Prop) (to : TE) (t : TA) : TE := fun σ H Q => to σ H fun x H1 => tyV K T x H1 ∧ t σ H1 fun xs H2 => r x xs H2 Q
variable {o e : Expr} {es : List Expr} {to : TE} {t : TA} {name : Str} {apos cpos : Pos} {T id : String} {r : V → List V → Hp → VK → Prop}
theorem pe_bm (pa : PlainAttrs T) (slot : Slot T name id) (hty : typeOf (.builtin id) = pure (.type "method_descriptor")) (hm : MtR X id r) (ho : PE X o to) (ha : PA X (e :: es) t)
    (hbase : attributeBase o name X.env (eval o X.env) = eval o X.env := by rfl)
    (hfew : ((backTo cpos (starEach (e :: es) X.env)).all (fun x => !x.1) && (backToKw cpos (keywordEach [] X.env)).all (fun x => x.1.isSome)
      && decide ((e :: es).length + ([] : List Keyword).length + (if ([] : List Keyword).isEmpty then 0 else 1) < 30)) = true := by rfl)
    (hline : (apos.endLine == cpos.line) = true := by rfl) (hs : starEach (e :: es) X.env = (false, eval e X.env) :: starEach es X.env := by rfl) (hplain : (backTo cpos (starEach es X.env)).any (·.1) = false := by rfl) :
    PE X (.Call (.Attribute o name apos) (e :: es) [] cpos) (tBM X.K T r to t) := by
  intro pins s σ H Q I h
  refine wpAny_Call_method_late hbase hfew hline rfl (thn (ho pins s σ H _ I h) fun v s1 ⟨x, H1, I1, r1, ty, q1⟩ => ?_)
  obtain ⟨h1, h2⟩ := tyV_is I1 r1 ty
  refine ⟨T, id, pa, slot, hty, h1, h2, ?_⟩
  have hA := ha cpos pins s1 σ H1 _ I1 q1
  rw [hs] at hA ⊢
  refine Calls.callWith_builtin (by show (false || (backTo cpos (starEach es X.env)).any (·.1)) = false; rw [hplain] <;> rfl) (Calls.evalArgs_plain ?_)
  exact thn hA fun us s2 ⟨vs, H2, I2, r2, q2⟩ => hm pins s2 σ H2 x vs v us Q I2 r1 r2 q2
/- xs.append(e), list.index on a module's tuple .. are MtR facts of 06m -/
end
end L2

namespace L2
open PySem PySem.Spec PyProof.Rows

def MtM (X : Cx) (id : String) (r : V → List V → Hp → VK → Prop) : Prop :=
  ∀ (pins : List (Addr × Obj)) (s : Shared) (σ : St) (H : Hp) (x : V) (xs : List V) (v : Value) (us : List Value) (Q : VK), Inv X pins σ H s → RelV x v → Vals xs us → r x xs H Q →
    wpAny (model X.prog X.w) X.A (call (.builtin id) (v :: us)) (EP X pins σ Q) X.xe s

/-! ### lists of values -/
theorem Vals.one : ∀ {x : V} {us : List Value}, Vals [x] us → ∃ u, us = [u] ∧ RelV x u
  | _, _, .cons r .nil => ⟨_, rfl, r⟩
theorem Vals.two : ∀ {x y : V} {us : List Value}, Vals [x, y] us → ∃ u v, us = [u, v] ∧ RelV x u ∧ RelV y v
  | _, _, _, .cons r (.cons q .nil) => ⟨_, _, rfl, r, q⟩
theorem Vals.zero : ∀ {us : List Value}, Vals [] us → us = []
  | _, .nil => rfl
theorem Vals.reverse {xs : List V} {us : List Value} (h : Vals xs us) : Vals xs.reverse us.reverse := by
  induction h with
  | nil => exact .nil
  | cons r t ih => rw [List.reverse_cons, List.reverse_cons]; exact Vals.append ih (.cons r .nil)
theorem Vals.rep {xs : List V} {us : List Value} (h : Vals xs us) : ∀ k : Nat, Vals (List.replicate k xs).flatten (List.replicate k us).flatten
  | 0 => .nil
  | k + 1 => by
    rw [List.replicate_succ, List.replicate_succ, List.flatten_cons, List.flatten_cons]
    exact Vals.append h (Vals.rep h k)

section
variable {X : Cx} {pins : List (Addr × Obj)} {σ : St} {H : Hp} {s : Shared} {l b : Addr} {xs ys zs : List V}

/-! ### the two steps: a tracked list is rewritten, a new list is laid -/
theorem Inv.lset {its its' : List Value} {n : Nat} {f : Array Value → Array Value} {t' : Nat} (I : Inv X pins σ H s) (hH : H l = some (.lst xs))
    (e : s.heap.get? l = some { cls := .type "list", data := .seq its.toArray n }) (hf : f its.toArray = its'.toArray) (hv : Vals ys its') (hz : ys.length ≤ sizeLine) :
    Inv X pins σ (upd H l (.lst ys)) { s with heap := s.heap.update l (Obj.mapSeq f), toks := t' } := by
  have q := PySem.IsL.update e f
  rw [hf] at q
  refine I.write (x := l) (e := l) (by rw [hH]; exact trivial) (.inl rfl) (fun b' u hb hu => (Heap.get?_update_other s.heap (Obj.mapSeq f) (Ne.symm hb)).trans hu) ⟨_, q⟩ ?_
  exact ⟨hz, its', _, hv, q⟩
theorem Inv.lnew {its : List Value} {t' : Nat} (I : Inv X pins σ H s) (hv : Vals ys its) (hz : ys.length ≤ sizeLine) :
    Inv X pins σ (upd H s.heap.objs.size (.lst ys)) { s with heap := s.heap.push { cls := .type "list", data := .seq its.toArray }, toks := t' } :=
  I.laid (fun _ _ q => Heap.get?_push_of_some _ q) (Nat.le_refl _) ⟨hz, its, 0, hv, Heap.get?_push_size _ rfl⟩
theorem Inv.fresh (I : Inv X pins σ H s) : H s.heap.objs.size = none := I.hok.fresh (Nat.le_refl _)
theorem Inv.lstM (I : Inv X pins σ H s) (hH : H l = some (.lst xs)) : xs.length ≤ sizeLine ∧ ∃ (its : List Value) (n : Nat), Vals xs its ∧ xs.length = its.length ∧ s.heap.get? l = some { cls := .type "list", data := .seq its.toArray n } := by
  obtain ⟨z, its, n, r, e⟩ := I.hok l _ hH
  exact ⟨z, its, n, r, r.length, e⟩

end

section
variable {X : Cx}

/-! ### methods -/
def rAppend : V → List V → Hp → VK → Prop := fun x vs H Q => ∃ l xs y, x = .ref l ∧ vs = [y] ∧ H l = some (.lst xs) ∧ xs.length < sizeLine ∧ Q .non (upd H l (.lst (xs ++ [y])))
theorem mt_append : MtM X "list.append" rAppend := by
  intro pins s σ H x vs v us Q I rx rv h
  obtain ⟨l, xs, y, rfl, rfl, hH, hz, q⟩ := h
  cases rx
  obtain ⟨u, rfl, ru⟩ := rv.one
  obtain ⟨z, its, n, r, hl, e⟩ := I.lstM hH
  refine call_meets F.slot_list_append ⟨_, e, rfl⟩ F.entry_list_append (F.args_list_append_2 _ _) (PySem.list_append l its.toArray n u (by rw [List.size_toArray]; omega)) ⟨e, ?_⟩
  refine ⟨.non, _, I.lset (its' := its ++ [u]) hH e (by simp) (r.append (.cons ru .nil)) ?_, rfl, q⟩
  rw [List.length_append, List.length_singleton]
  omega






/-! ### list + list, list += list, list * int -/
def rCat : R2 := fun x y H Q => ∃ l b xs zs, x = .ref l ∧ y = .ref b ∧ H l = some (.lst xs) ∧ H b = some (.lst zs) ∧ xs.length + zs.length ≤ sizeLine ∧ ∀ p, H p = none → Q (.ref p) (upd H p (.lst (xs ++ zs)))
theorem op_cat : OpR X (binaryOp .Add) rCat := by
  intro pins s σ H x y v u Q I rx ry h
  obtain ⟨l, b, xs, zs, rfl, rfl, hH, hB, hz, q⟩ := h
  cases rx
  cases ry
  obtain ⟨z, its, n, r, hl, e⟩ := I.lstM hH
  obtain ⟨z2, its2, n2, r2, hl2, e2⟩ := I.lstM hB
  refine PySem.P.add_list e e2 ?_ (by rw [List.size_toArray, List.size_toArray]; omega)
  have ea : its.toArray ++ its2.toArray = (its ++ its2).toArray := by simp
  rw [ea]
  exact ⟨.ref _, _, I.lnew (t' := s.toks) (r.append r2) (by rw [List.length_append]; omega), rfl, q _ I.fresh⟩

/-! ### del xs[i] -/
end

/-! ### xs[a:b] = ys -/
section
variable {prog : Program} {w : World} {A : Around} {E : Value → Shared → Prop} {s : Shared}
end

section
variable {X : Cx}
end
end L2

namespace Att
open PySem PySem.W PySem.Calls PyProof.Rows

/-! ### the script -/
theorem ints_of_wellAll {P : Params} {h : Heap} : ∀ (ns : List Int) (vs : List Value), WellAll P h vs (ns.map WData.int) → IntsAre vs ns := by
  intro ns
  induction ns with
  | nil =>
    intro vs w
    rw [List.map_nil] at w
    cases w
    exact .nil
  | cons n ns ih =>
    intro vs w
    rw [List.map_cons] at w
    cases w with
    | cons a b =>
      cases a
      exact .cons _ _ (ih _ b)

theorem script_of {l : OpenLaw} {n : Nat} (hn : l.most = some n) {P : Params} {h : Heap} {args : List WData} {vals : List Value}
    (hpre : l.row.toRowW.claim.pre args = true) (hwl : WellAll P h vals args) :
    ∃ a vs ns, vals = [Value.ref a] ∧ args = [WData.list (ns.map WData.int)] ∧ h.get? a = some { cls := .type "list", data := .seq vs.toArray } ∧ IntsAre vs ns ∧ ns.length ≤ n := by
  have hsh : WShape.hasAll [] args [.list .int] = true := (pre_splitW hpre).1
  have hc : l.pre.holds [] { args := args } = true := (pre_splitW hpre).2
  obtain ⟨d, r, rfl, h1, h2⟩ := hasAllW_cons hsh
  obtain rfl := hasAllW_nil h2
  obtain ⟨xs, rfl, h3⟩ := hasW_list h1
  obtain ⟨ns, rfl⟩ := items_int h3
  have hlen : ns.length ≤ n := by
    unfold OpenLaw.pre at hc
    have h4 : (WTm.not (.lt (.lit (.int (n : Int))) (.len (.arg 0)))).holds [] { args := [.list (ns.map .int)] } = true := by
      have h4 := (holds_andW hc).1
      rw [hn] at h4
      exact h4
    have h5 := condW_of h4 (w_not (w_lt w_lit (w_len_list (w_arg rfl))))
    rw [List.length_map] at h5
    refine Nat.le_of_not_lt fun q => ?_
    have q' : (n : Int) < ((ns.length : Nat) : Int) := by omega
    first
      | (rw [decide_eq_true q'] at h5; exact absurd h5 (by decide))
      | (simp at h5; omega)
  cases hwl with
  | cons w1 w2 =>
    cases w2
    cases w1 with
    | list ho hall => exact ⟨_, _, ns, rfl, rfl, ho, ints_of_wellAll ns _ hall, hlen⟩

theorem post_true (l : OpenLaw) (args : List WData) : l.row.toRowW.claim.post args (.bool true) args = true :=
  postW_of (r := l.row.toRowW) (X := (true == true))
    (show WShape.has [] (.bool true) .bool = true by first | rfl | decide | simp [WShape.has, WShape.arms, WShape.armsAll])
    (show (WTm.eq .res (.lit (.bool true))).value [] { args := args, res := some (.bool true), after := args } = some (.bool (true == true)) from w_eq_bool (w_res rfl) w_lit) rfl

/-! ### the attachment: holds_open's last premise (the goal 'hc' behind k_head) from a wpAny of the law's body -/

/-- the same from a codeAny of the CALL (for a layer whose function contracts speak of calls) -/
theorem attach_call {l : OpenLaw} {n : Nat} {q : Program} {loose : List Str} {XP : (Str → Option Value) → Heap → Prop} {YP : World → Heap → Prop} {d : DefRec}
    (hn : l.most = some n) (hdf : d.params.defaults = [])
    (call : ∀ (w : World) (s₀ s₁ : Shared) (mg mb : Str → Option Value) (fa : Addr) (o : Obj) (pm cd doc : Value) (a : Addr) (vs : List Value) (ns : List Int),
      Ground q loose [] XP w s₀ mg mb s₁.heap → YP w s₁.heap →
      s₁.heap.get? fa = some o → o.data = .func (docDef d.name d.params d.body d.scope pm cd doc) → s₁.heap.CodeRec cd d.name → mg d.name = some (.ref fa) →
      s₁.heap.get? a = some { cls := .type "list", data := .seq vs.toArray } → IntsAre vs ns → ns.length ≤ n → s₁.gens = #[] →
      codeAny (model l.prog w) callerA (.call (.ref fa) ⟨[.ref a], []⟩) (fun r s' => r = .ok (.ret (.bool true)) ∧ OldK s₁.heap s'.heap ∧ s'.os = s₁.os ∧ AllBare s'.gens) s₁) :
    WalkO q loose XP YP l.row.toRowW d [] (fun f vs => PySem.call f vs) := by
  intro w s₀ s₁ mg mb G Y fa o pm cd doc dV kV ho hd hcd hD hmg hg args vals as hpre hlay hrd hwl hlo
  obtain rfl : dV = .none := Dflts.none hD hdf
  obtain rfl : kV = .none := Dflts.noKw hD
  obtain ⟨a, vs, ns, rfl, rfl, hobj, hints, hlen⟩ := script_of hn hpre hwl
  refine enter_call (codeAny_mono (call w s₀ s₁ mg mb fa o pm cd doc a vs ns G Y ho (fd_plain hd) hcd hmg hobj hints hlen hg) fun r s' hq => ?_)
  obtain ⟨rfl, h2, h3, h4⟩ := hq
  exact ⟨.inl ⟨.bool true, .bool true, [], rfl, fun _ => rfl, .bool true, post_true l _, fun _ => ⟨List.Pairwise.nil, fun _ hm => (nomatch hm)⟩⟩, h2, h3, h4⟩


/-! ### rules over ANY heap (no ledger) from facts about the written part K: the library's own take a ledger (News) for what they write -/
section
variable {prog : Program} {w : World} {A : Around} {E : Value → Shared → Prop} {s : Shared} {K : Frag}





/-! the whole heap as the ledger: makes every rule that writes through a ledger a rule over any heap -/
def ledger (h : Heap) (L d : Addr) : List (Addr × Obj) := (List.range h.objs.size).filterMap fun a => if a = L ∨ a = d then none else (h.get? a).map fun o => (a, o)

end
end Att

namespace L2
open PySem PySem.Spec PyProof.Rows

theorem vals_ints : ∀ {vs : List Value} {ns : List Int}, IntsAre vs ns → Vals (ns.map V.int) vs
  | _, _, .nil => .nil
  | _, _, .cons n t h => .cons ⟨t, rfl⟩ (vals_ints h)

/-- nothing is tracked but the script, known to the object (or it is an object of the module) -/
def Only (H : Hp) : Prop := ∀ b, H b = none ∨ ∃ o xs, H b = some (.frz o (.lst xs))

/-- THE HEAD: the law's promise, at the heap behind the top. F, the promise of the law's def, may use that base is part of the heap (so K.In base, base.Ns mainGlobals mg stand in Mod) -/
theorem law_call {P : Program} {w : World} {K : PySem.W.Frag} {mg mb : Str → Option Value} {CX : CXT} {k : Nat} {fa a : Addr} {fd : FuncData} {x : Str} {sp : Sp} {s₁ : Shared} {vs : List Value} {ns : List Int}
    (KX : K.In s₁.heap) (hns : s₁.heap.Ns mainGlobals mg) (hb : s₁.heap.Ns builtinsNs mb) (hbb : ∀ x : Str, x ≠ "__name__" → mb x = bootBuiltins x) (hlim : s₁.heap.NoLimit) (hg : s₁.gens = #[])
    (ha : s₁.heap.get? a = some { cls := .type "list", data := .seq vs.toArray }) (hi : IntsAre vs ns) (hl : ns.length ≤ sizeLine) (hr : Room k callerA)
    (F : ∀ base : Heap, K.In base → base.Ns mainGlobals mg → FnOk P w K mg base CX k fa fd [x] sp) (hbind : ∀ (s : Shared) (u : Value), BindsTo s fd ⟨[u], []⟩ [(x, u)])
    (hsp : ∀ H : Hp, Only H → SqL K H a (ns.map V.int) → sp [.ref a] H (fun v _ => v = .bl true) fun _ _ _ => False)
    (hCX : ∀ H e s', CX [] H s₁ (fun _ _ _ => False) e s' → False) :
    codeAny (model P w) callerA (.call (.ref fa) ⟨[.ref a], []⟩) (fun r s' => r = .ok (.ret (.bool true)) ∧ OldK s₁.heap s'.heap ∧ s'.os = s₁.os ∧ AllBare s'.gens) s₁ := by
  have rv := vals_ints hi
  have lenV := hi.length
  -- from an abstract heap in which nothing but the script may be tracked
  have core : ∀ H : Hp, Only H → SqL K H a (ns.map V.int) → HOk P w H s₁.heap → (∀ b, H b ≠ none → b = a) → (H a ≠ none → K.lookup a = none) →
      codeAny (model P w) callerA (.call (.ref fa) ⟨[.ref a], []⟩) (fun r s' => r = .ok (.ret (.bool true)) ∧ OldK s₁.heap s'.heap ∧ s'.os = s₁.os ∧ AllBare s'.gens) s₁ := by
    intro H hO hS hok hA hK
    have base_of : ∀ {b : Addr} {o : Obj}, s₁.heap.get? b = some o → H b = none → (hidT s₁.heap H).get? b = some o := fun e n => hidT_get e n
    have noA : ∀ {b : Addr} {o : Obj} {es : Array DictEntry} {ep : Nat}, s₁.heap.get? b = some o → o.data = .dict es ep → H b = none := fun {b o es ep} e d => by
      cases q : H b with
      | none => rfl
      | some u =>
        have e' : b = a := hA b (by rw [q]; simp)
        subst e'
        rw [ha] at e; cases e
        have d' : Data.seq vs.toArray _ = Data.dict es ep := d
        cases d'
    have nsK : ∀ {b : Addr} {m : Str → Option Value}, s₁.heap.Ns b m → (hidT s₁.heap H).Ns b m := fun {b m} ⟨o, es, ep, e, d, r⟩ => ⟨o, es, ep, base_of e (noA e d), d, r⟩
    have hKb : K.In (hidT s₁.heap H) := fun b o e => base_of (KX b o e) (by
      cases q : H b with
      | none => rfl
      | some u =>
        have e' : b = a := hA b (by rw [q]; simp)
        subst e'
        rw [hK (by rw [q]; simp)] at e; cases e)
    have hM : Mod K mg (hidT s₁.heap H) := ⟨hKb, nsK hns, ⟨mb, nsK hb, hbb⟩, let ⟨mc, h1, h2⟩ := hlim; ⟨mc, nsK h1, h2⟩⟩
    have e0 : Env0 P w K mg (hidT s₁.heap H) callerA [] s₁ H := ⟨rfl, hM, fun b o e => of_hidT e, Nat.le_of_eq (hidT_size _ _), trivial, fun b hb => absurd (show b ∈ ([] : List Addr) from hb) (by simp), hok, .of_eq hg⟩
    refine codeAny_mono ((F _ hKb (nsK hns)).run callerA [] s₁ H ⟨[.ref a], []⟩ [.ref a] [.ref a] _ _ hr e0 (hbind s₁ (.ref a)) (.cons rfl .nil) (hsp H hO hS)) fun r s' h => ?_
    cases r with
    | error e => exact (hCX H e s' h).elim
    | ok fl =>
      cases fl with
      | next => exact False.elim h
      | brk => exact False.elim h
      | cont => exact False.elim h
      | ret u =>
        obtain ⟨v, H', os, bare, un, hok', r', q⟩ := h
        have q' : v = .bl true := q
        subst q'
        obtain rfl : u = Value.bool true := r'
        refine ⟨rfl, OldK.of_keep fun b o e => ?_, os, bare⟩
        cases q : H b with
        | none => exact un.keep b o e q (by intro z; exact absurd (show b ∈ ([] : List Addr) from z) (by simp)) (by simp)
        | some u =>
          rcases hO b with z | ⟨ob, xs, z⟩
          · rw [q] at z; cases z
          · have z2 := un.frzs b ob _ z
            obtain ⟨e1, _⟩ := hok b _ z
            obtain ⟨e2, _⟩ := hok' b _ z2
            rw [e] at e1; cases e1
            exact e2
  cases hk : K.lookup a with
  | some o =>
    -- the script is one of the module's own objects
    have e := KX a o hk
    rw [ha] at e
    cases e
    refine core (fun _ => none) (fun _ => .inl rfl) (.inr ⟨_, vs.toArray, _, hk, rfl, rfl, rfl, by rw [List.size_toArray, lenV]; exact hl, by simpa using rv⟩) (fun b u z => by have z' : (none : Option HO) = some u := z; cases z') (fun b z => absurd rfl z) fun z => absurd rfl z
  | none =>
    refine core (fun b => if b = a then some (.frz { cls := .type "list", data := .seq vs.toArray } (.lst (ns.map V.int))) else none) (fun b => ?_) (.inl (.inr ⟨{ cls := .type "list", data := .seq vs.toArray }, if_pos rfl⟩)) (fun b u z => ?_) (fun b z => ?_) fun _ => hk
    · by_cases hb : b = a
      · exact .inr ⟨_, _, if_pos hb⟩
      · exact .inl (if_neg hb)
    · by_cases hb : b = a
      · have z' := (if_pos hb).symm.trans z
        cases z'
        subst hb
        exact ⟨ha, by rw [List.length_map]; exact hl, vs, _, rv, ha⟩
      · have z' := (if_neg hb).symm.trans z
        cases z'
    · by_cases hb : b = a
      · exact hb
      · exact absurd (if_neg hb) z
end L2

namespace L2
open PySem PySem.Spec PyProof.Rows

abbrev KOf {K : PySem.W.Frag} {h : Heap} (_ : K.In h) : PySem.W.Frag := K

/-- the goal that k_head leaves (case hc), from the law's promise. F gives the function object fd (K's own) once, then the promise over every base -/
theorem walk_of {l : PySem.W.OpenLaw} {n k : Nat} {q : Program} {loose : List Str} {XP : (Str → Option Value) → Heap → Prop} {YP : World → Heap → Prop} {d : DefRec} {K : Params → PySem.W.Frag} {CX : World → CXT} {sp : World → Sp} {x : Str}
    (hn : l.most = some n) (hn2 : n ≤ sizeLine) (hdf : d.params.defaults = []) (hr : Room k callerA)
    (hY : ∀ (w : World) (h : Heap), YP w h → (K w.params).In h)
    (F : ∀ (w : World) (mg : Str → Option Value) (fa : Addr) (h : Heap), (K w.params).In h → h.Ns mainGlobals mg → mg d.name = some (.ref fa) →
      ∃ fd : FuncData, (∀ (s : Shared) (u : Value), BindsTo s fd ⟨[u], []⟩ [(x, u)]) ∧
        ∀ base : Heap, (K w.params).In base → base.Ns mainGlobals mg → FnOk l.prog w (K w.params) mg base (CX w) k fa fd [x] (sp w))
    (hsp : ∀ (w : World) (H : Hp) (a : Addr) (ns : List Int), ns.length ≤ n → Only H → SqL (K w.params) H a (ns.map V.int) → sp w [.ref a] H (fun v _ => v = .bl true) fun _ _ _ => False)
    (hCX : ∀ (w : World) (H : Hp) (s : Shared) (e : Value) (s' : Shared), CX w [] H s (fun _ _ _ => False) e s' → False) :
    PySem.W.WalkO q loose XP YP l.row.toRowW d [] (fun f vs => PySem.call f vs) := by
  refine Att.attach_call hn hdf fun w s₀ s₁ mg mb fa o pm cd doc a vs ns G Y ho hd hcd hmg hobj hints hlen hg => ?_
  have KX := hY w _ Y
  obtain ⟨fd, hb, hF⟩ := F w mg fa _ KX G.T.g hmg
  exact law_call KX G.T.g G.T.b G.T.builtins G.T.nolimit hg hobj hints (Nat.le_trans hlen hn2) hr hF hb (fun H hO hS => hsp w H a ns hlen hO hS) fun H e s' => hCX w H s₁ e s'
end L2

/- THE LAST THEOREM (shape; LID, My.* are yours):
   My.Adr: a structure of the addresses that your layer names (classes, functions); My.Txt K t: a structure (Prop) of the equations over K;
   My.txt_mk : {K} {implicit addresses ..} (e1 : nsIn K mainGlobals "law" = some (some (.ref f))) (e2 : K.lookup f = some ⟨oc, od, .func (fnOf "law" "law" params body scope dV kV doc pm an cdv ct), sl⟩) (e3 : codeIn K cdv "law" = true) .. : ∃ t, My.Txt K t

set_option maxRecDepth 100000 in
set_option maxHeartbeats 0 in
theorem PySem.Challenge.cw_LID_holds : PySem.Challenge.rw_LID.Holds := by
  w_on; o_law; k_head; (case hw => w_witness2)
  k_fill
  refine L2.walk_of (l := PySem.Challenge.rw_LID) (n := 63) (k := 40) (x := "script") (CX := fun w => ..) (sp := fun _ => My.sp_law) rfl (by decide) rfl ⟨rfl, by decide, by decide⟩ (fun w h Y => PySem.W.kIn_of Y) ?F ?S ?C
  case F =>
    intro w mg fa h KX G hmg
    have T : ∃ t, My.Txt (L2.KOf KX) t := by
      dsimp only [L2.KOf]                          -- K must stand as «<heap const> w.params» for k_is
      refine' My.txt_mk ?e1 ?e2 ?e3 ..
      (case e1 => PySem.W.k_is)                    -- in the order: a name -> its address -> its object -> its parts
      (case e2 => PySem.W.k_is)
      ..
    obtain ⟨t, T⟩ := T
    have e0 := hmg.symm.trans (PySem.W.mg_of KX G T.law)
    cases e0                                       -- fa is the law's own address
    exact ⟨_, fun s u => .of_eq rfl, fun base kb nb => My.law_fn T kb nb⟩     -- if «.of_eq rfl» comes too early: refine' ⟨_, ?b, fun base kb nb => My.law_fn T kb nb⟩; exact fun s u => .of_eq rfl
  case S => exact fun w H a ns hl hO hS => ..
  case C => exact ..
(the tactic k_is has no namespace: write k_is) -/

/-! SHORT WORDS over the layer: a def of the text, its body, what a loop and a test want. -/
namespace L2
open PySem PySem.Spec PyProof.Rows

/-! ### the text by places -/
def defArgs (s : Stmt) : Arguments := match s with
  | .FunctionDef _ a _ _ _ _ _ _ _ _ => a
  | _ => { posonlyargs := [], args := [], vararg := none, kwonlyargs := [], kw_defaults := [], kwarg := none, defaults := [] }
def defBody (s : Stmt) : List Stmt := match s with
  | .FunctionDef _ _ b _ _ _ _ _ _ _ => b
  | _ => []
def defScope (s : Stmt) : Scope := match s with
  | .FunctionDef _ _ _ _ _ _ sc _ _ _ => sc
  | _ => { kind := .function, names := [], isGenerator := false, isCoroutine := false }

/-! ### no exception leaves a def -/
abbrev CX0 : CXT := fun _ _ _ _ _ _ => False
abbrev E0 : XK := fun _ _ _ => False
theorem pass0 {X : Cx} : Passes CX0 X E0 := fun _ _ _ _ _ _ _ h => h.elim

/-! ### a def (or method) of the text as it stands behind the top -/
structure Fun (K : PySem.W.Frag) (x qual : Str) (st : Stmt) (f : Addr) (fd : FuncData) : Prop where
  ex : ∃ (oc : Value) (od : Option Addr) (kV doc pm : Value) (an : Option Addr) (cdv ct : Value) (osl : Array (Option Value)),
    fd = PySem.W.fnOf x qual (defArgs st) (defBody st) (defScope st) .none kV doc pm an cdv ct ∧ K.lookup f = some ⟨oc, od, .func fd, osl⟩ ∧ PySem.W.codeIn K cdv qual = true
  kp : PySem.W.keepIn K (.ref f) = true
section
variable {P : Program} {w : World} {K : PySem.W.Frag} {mg : Str → Option Value} {base : Heap}
/-- THE RULE for a def: its body as a term of rules, and the reading of that term -/
theorem Fun.ok {x qual : Str} {st : Stmt} {f : Addr} {fd : FuncData} {N ps : List Str} {k : Nat} {sp : Sp} (F : Fun K x qual st f fd) (S : FnScope N ps (defScope st)) (len : ∀ vs H Q E, sp vs H Q E → vs.length = ps.length)
    (hbody : ∀ (cdv : Value) (A : Around) (outer : List Env) (s : Shared) (H : Hp) (vs : List V) (Q : VK) (E : XK), Room k (A.deeper (envOfC qual (defScope st) s.heap.objs.size f cdv)) → sp vs H Q E →
      ∃ t, PSs (cxOf CX0 P w K mg base N qual (defScope st) f cdv A outer s H E).nox (defBody st) t ∧ t { nx := fun _ H' => Q .non H', rt := Q } (start N vs) H) : FnOk P w K mg base CX0 (k + 1) f fd ps sp := by
  obtain ⟨oc, od, kV, doc, pm, an, cdv, ct, osl, rfl, lk, hcd⟩ := F.ex
  refine fn_of lk hcd S len fun A outer s H vs Q E hr hsp => ?_
  obtain ⟨t, h, q⟩ := hbody cdv A outer s H vs Q E hr hsp
  exact ⟨t, h.nox, q⟩
/-- how its arguments bind (no defaults): h is «fun _ _ _ _ _ _ us hl => match us, hl with | [_, _], _ => rfl», one _ a parameter -/
theorem Fun.binds {x qual : Str} {st : Stmt} {f : Addr} {fd : FuncData} {ps : List Str} (F : Fun K x qual st f fd)
    (h : ∀ (kV doc pm : Value) (an : Option Addr) (cdv ct : Value) (us : List Value), us.length = ps.length → bindArgs (PySem.W.fnOf x qual (defArgs st) (defBody st) (defScope st) .none kV doc pm an cdv ct) ⟨us, []⟩ = pure (ps.zip us)) : Binds K fd ps [] := by
  obtain ⟨oc, od, kV, doc, pm, an, cdv, ct, osl, rfl, lk, hcd⟩ := F.ex
  exact .all (h kV doc pm an cdv ct)
theorem fun_mk {x qual : Str} {st : Stmt} {f : Addr} {oc : Value} {od an : Option Addr} {osl : Array (Option Value)} {kV doc pm cdv ct : Value} (l : K.lookup f = some ⟨oc, od, .func (PySem.W.fnOf x qual (defArgs st) (defBody st) (defScope st) .none kV doc pm an cdv ct), osl⟩)
    (c : PySem.W.codeIn K cdv qual = true) (k : PySem.W.keepIn K (.ref f) = true) : Fun K x qual st f (PySem.W.fnOf x qual (defArgs st) (defBody st) (defScope st) .none kV doc pm an cdv ct) := ⟨⟨oc, od, kV, doc, pm, an, cdv, ct, osl, rfl, l, c⟩, k⟩
end
theorem small1000 {n : Nat} (h : n ≤ 1000) : n < sizeLine := Nat.lt_of_le_of_lt h (by decide)

/-! ### expressions in short: the name that stands in the i-th slot -/
section
variable {X : Cx}
theorem pv (i : Nat) {x : Str} {pos : Pos} (hN : X.N[i]? = some x := by rfl) (hv : Vis X.env.scope x := by first | exact Or.inl rfl | exact Or.inr (Or.inl rfl) | exact Or.inr (Or.inr rfl)) (hd : (x == ("__debug__" : Str)) = false := by decide)
    (hcd : (x == ("__classdict__" : Str)) = false := by decide) : PE X (.Name x pos) (tVar i) := pe_var hN hv hd hcd
end

/-! ### tests -/
theorem iteF {A B : Prop} (h : B) : if false = true then A else B := by
  rw [if_neg Bool.false_ne_true]
  exact h
theorem iteT {A B : Prop} (h : A) : if true = true then A else B := by
  rw [if_pos rfl]
  exact h

/-! ### heaps -/
/-- all that was tracked is as it was -/
def Same (H H' : Hp) : Prop := ∀ b o, H b = some o → H' b = some o
theorem Same.refl (H : Hp) : Same H H := fun _ _ h => h
theorem Same.trans {H H1 H2 : Hp} (a : Same H H1) (b : Same H1 H2) : Same H H2 := fun c o h => b c o (a c o h)
theorem Same.free {H H' : Hp} (e : Same H H') {l : Addr} (h : H' l = Option.none) : H l = Option.none := by
  cases q : H l with
  | none => rfl
  | some o =>
    rw [e l o q] at h
    cases h
theorem Same.seq {K : PySem.W.Frag} {H H' : Hp} {a : Addr} {xs : List V} (e : Same H H') (h : SqL K H a xs) : SqL K H' a xs := by
  rcases h with (h | ⟨o, h⟩) | h
  · exact .inl (.inl (e _ _ h))
  · exact .inl (.inr ⟨o, e _ _ h⟩)
  · exact .inr h

end L2

namespace L2
open PySem PySem.Spec PyProof.Rows

/-! ### lists of pairs as tables -/
section
variable {κ : Type} [DecidableEq κ]
def valV (kvs : List (κ × V)) (k : κ) : Option V := (kvs.find? fun kv => decide (kv.1 = k)).map (·.2)
/-- in its place, or at the end -/
def putK (kvs : List (κ × V)) (k : κ) (v : V) : List (κ × V) :=
  if (kvs.any fun kv => decide (kv.1 = k)) = true then kvs.map (fun kv => if kv.1 = k then (kv.1, v) else kv) else kvs ++ [(k, v)]
def dropK (kvs : List (κ × V)) (k : κ) : List (κ × V) := kvs.filter fun kv => decide (kv.1 ≠ k)

theorem valV_pos {p : κ × V} {r : List (κ × V)} {k : κ} (e : p.1 = k) : valV (p :: r) k = some p.2 := by simp [valV, List.find?_cons, e]
theorem valV_neg {p : κ × V} {r : List (κ × V)} {k : κ} (e : ¬ p.1 = k) : valV (p :: r) k = valV r k := by simp [valV, List.find?_cons, e]
theorem valV_any (k : κ) : ∀ kvs : List (κ × V), (kvs.any fun kv => decide (kv.1 = k)) = (valV kvs k).isSome
  | [] => rfl
  | p :: r => by
    rw [List.any_cons]
    by_cases e : p.1 = k
    · simp only [valV_pos e, decide_eq_true e, Bool.true_or, Option.isSome_some]
    · rw [valV_neg e, decide_eq_false e, Bool.false_or]; exact valV_any k r
theorem length_putK (kvs : List (κ × V)) (k : κ) (v : V) : (putK kvs k v).length ≤ kvs.length + 1 := by
  unfold putK
  split
  · rw [List.length_map]; omega
  · rw [List.length_append, List.length_cons, List.length_nil]; omega
theorem putK_new {kvs : List (κ × V)} {k : κ} (v : V) (h : valV kvs k = none) : putK kvs k v = kvs ++ [(k, v)] := by
  unfold putK
  rw [valV_any, h]
  exact if_neg (by decide)

theorem RelO.isSome_eq {o : Option V} {u : Option Value} (r : RelO o u) : o.isSome = u.isSome := by
  cases o with
  | none => cases u with
    | none => rfl
    | some _ => exact (show False from r).elim
  | some _ => cases u with
    | none => exact (show False from r).elim
    | some _ => rfl
theorem RelO.getD {o : Option V} {u : Option Value} {d : V} {d' : Value} (r : RelO o u) (rd : RelV d d') : RelV (o.getD d) (u.getD d') := by
  cases o with
  | none => cases u with
    | none => exact rd
    | some _ => exact (show False from r).elim
  | some _ => cases u with
    | none => exact (show False from r).elim
    | some _ => exact r

/-- raw tables of the same keys -/
theorem KV.val {kvs : List (κ × V)} {vs : List (κ × Value)} (r : KV kvs vs) (k : κ) : RelO (valV kvs k) (valueAt vs k) := by
  unfold KV at r
  induction r with
  | nil => exact True.intro
  | @cons p q ps qs h t ih =>
    obtain ⟨h1, h2⟩ := h
    by_cases e : p.1 = k
    · have e' : q.1 = k := h1.symm.trans e
      have b : valueAt (q :: qs) k = some q.2 := by simp [valueAt, List.find?_cons, e']
      rw [valV_pos e, b]; exact h2
    · have e' : ¬ q.1 = k := fun z => e (h1.trans z)
      have b : valueAt (q :: qs) k = valueAt qs k := by simp [valueAt, List.find?_cons, e']
      rw [valV_neg e, b]; exact ih
theorem KV.any {kvs : List (κ × V)} {vs : List (κ × Value)} (r : KV kvs vs) (k : κ) : (kvs.any fun kv => decide (kv.1 = k)) = vs.any fun kv => decide (kv.1 = k) := by
  unfold KV at r
  induction r with
  | nil => rfl
  | cons h t ih => rw [List.any_cons, List.any_cons, ih, h.1]
theorem KV.repl {kvs : List (κ × V)} {vs : List (κ × Value)} (r : KV kvs vs) (k : κ) {y : V} {u : Value} (ry : RelV y u) :
    KV (kvs.map fun kv => if kv.1 = k then (kv.1, y) else kv) (vs.map fun kv => if kv.1 = k then (kv.1, u) else kv) := by
  unfold KV at r ⊢
  induction r with
  | nil => exact .nil
  | @cons p q ps qs h t ih =>
    rw [List.map_cons, List.map_cons]
    refine .cons ?_ ih
    obtain ⟨h1, h2⟩ := h
    by_cases e : p.1 = k
    · rw [if_pos e, if_pos (h1.symm.trans e)]; exact ⟨h1, ry⟩
    · rw [if_neg e, if_neg (fun z => e (h1.trans z))]; exact ⟨h1, h2⟩
theorem KV.put {kvs : List (κ × V)} {vs : List (κ × Value)} (r : KV kvs vs) (k : κ) {y : V} {u : Value} (ry : RelV y u) : KV (putK kvs k y) (stored vs k u) := by
  unfold putK stored
  rw [r.any k]
  by_cases e : (vs.any fun kv => decide (kv.1 = k)) = true
  · rw [if_pos e, if_pos e]; exact r.repl k ry
  · rw [if_neg e, if_neg e]; exact Paired.snoc r ⟨rfl, ry⟩
theorem KV.drop {kvs : List (κ × V)} {vs : List (κ × Value)} (r : KV kvs vs) (k : κ) : KV (dropK kvs k) (without vs k) := by
  unfold KV at r ⊢
  unfold dropK without
  induction r with
  | nil => exact .nil
  | @cons p q ps qs h t ih =>
    obtain ⟨h1, h2⟩ := h
    rw [List.filter_cons, List.filter_cons]
    by_cases e : p.1 = k
    · have a : ¬ decide (p.1 ≠ k) = true := by simp [e]
      have b : ¬ decide (q.1 ≠ k) = true := by simp [h1.symm.trans e]
      rw [if_neg a, if_neg b]; exact ih
    · have e' : ¬ q.1 = k := fun z => e (h1.trans z)
      have a : decide (p.1 ≠ k) = true := by simp [e]
      have b : decide (q.1 ≠ k) = true := by simp [e']
      rw [if_pos a, if_pos b]; exact .cons ⟨h1, h2⟩ ih
theorem KV.keys {kvs : List (κ × V)} {vs : List (κ × Value)} (r : KV kvs vs) : kvs.map (·.1) = vs.map (·.1) := by
  unfold KV at r
  induction r with
  | nil => rfl
  | cons h t ih => rw [List.map_cons, List.map_cons, ih, h.1]
theorem KV.length {kvs : List (κ × V)} {vs : List (κ × Value)} (r : KV kvs vs) : kvs.length = vs.length := Paired.length r
end


/-! ### a tracked dict, its keys ints and texts or tuples of these -/
theorem kV_is {P : Program} {w : World} {k : Key} {u : Value} (r : RelV (kV k) u) : (mixKind P w).is k u = true := by
  cases k with
  | inl i => obtain ⟨t, e⟩ := (show ∃ t, u = Value.int i t from r); subst e; exact mixKind_int P w i t
  | inr x => obtain ⟨t, e⟩ := (show ∃ t, u = Value.str x t from r); subst e; exact mixKind_str P w x t
theorem items_are {P : Program} {w : World} : ∀ {ks : List Key} {us : List Value}, Vals (ks.map kV) us → ItemsAre (mixKind P w) ks us
  | [], _, r => by rw [List.map_nil] at r; cases r; exact .nil
  | k :: ks, _, r => by
    rw [List.map_cons] at r
    cases r with
    | cons h t => exact .cons (kV_is h) (items_are t)

/-- raw entries of a dict with tuple keys -/
abbrev KT (H : Hp) : List (List Key × V) → List (List Key × Addr × Value) → Prop := Paired fun p q => p.1 = q.1 ∧ H q.2.1 = some (.tup (p.1.map kV)) ∧ RelV p.2 q.2.2
theorem KT.val {H : Hp} {kvs : List (List Key × V)} {xs : List (List Key × Addr × Value)} (r : KT H kvs xs) (k : List Key) : RelO (valV kvs k) ((atKey xs k).map (·.2)) := by
  induction r with
  | nil => exact True.intro
  | @cons p q ps qs h t ih =>
    obtain ⟨h1, _, h2⟩ := h
    by_cases e : p.1 = k
    · have e' : q.1 = k := h1.symm.trans e
      have b : atKey (q :: qs) k = some q.2 := by simp [atKey, List.find?_cons, e']
      rw [valV_pos e, b]; exact h2
    · have e' : ¬ q.1 = k := fun z => e (h1.trans z)
      have b : atKey (q :: qs) k = atKey qs k := by simp [atKey, List.find?_cons, e']
      rw [valV_neg e, b]; exact ih
theorem KT.repl {H : Hp} {kvs : List (List Key × V)} {xs : List (List Key × Addr × Value)} (r : KT H kvs xs) (k : List Key) {y : V} {u : Value} (ry : RelV y u) :
    KT H (kvs.map fun kv => if kv.1 = k then (kv.1, y) else kv) (xs.map (putAt k u)) := by
  induction r with
  | nil => exact .nil
  | @cons p q ps qs h t ih =>
    rw [List.map_cons, List.map_cons]
    refine .cons ?_ ih
    obtain ⟨h1, h2, h3⟩ := h
    unfold putAt
    by_cases e : p.1 = k
    · rw [if_pos e, if_pos (h1.symm.trans e)]; exact ⟨h1, h2, ry⟩
    · rw [if_neg e, if_neg (fun z => e (h1.trans z))]; exact ⟨h1, h2, h3⟩
theorem KT.put {H : Hp} {kvs : List (List Key × V)} {xs : List (List Key × Addr × Value)} (r : KT H kvs xs) (k : List Key) {b : Addr} {y : V} {u : Value} (hb : H b = some (.tup (k.map kV))) (ry : RelV y u) :
    KT H (putK kvs k y) (storedH xs k b u) := by
  have e : (kvs.any fun kv => decide (kv.1 = k)) = (atKey xs k).isSome := by
    rw [valV_any, (r.val k).isSome_eq, Option.isSome_map]
  unfold putK storedH
  rw [e]
  by_cases q : (atKey xs k).isSome = true
  · rw [if_pos q, if_pos q]; exact r.repl k ry
  · rw [if_neg q, if_neg q]; exact Paired.snoc r ⟨rfl, hb, ry⟩
theorem KT.keeps {H H' : Hp} {kvs : List (List Key × V)} {xs : List (List Key × Addr × Value)} (r : KT H kvs xs) (ht : ∀ b ys, H b = some (.tup ys) → H' b = some (.tup ys)) : KT H' kvs xs :=
  Paired.mapP r fun _ _ z => ⟨z.1, ht _ _ z.2.1, z.2.2⟩

section
variable {P : Program} {w : World} {H : Hp} {h : Heap} {a : Addr}
theorem rd_of {u : HO} (ok : HOk P w H h) (e : Rd H a u) : ObjOk P w H h a u := e.ok ok
theorem dk_rd {kvs : List (Key × V)} (ok : HOk P w H h) (e : Rd H a (.dK kvs)) : kvs.length ≤ sizeLine ∧ (a == sysModules) = false ∧ ∃ vs, KV kvs vs ∧ h.DictOf (mixKind P w) a vs :=
  show ObjOk P w H h a (.dK kvs) from rd_of ok e
theorem dk_of {kvs : List (Key × V)} (ok : HOk P w H h) (e : H a = some (.dK kvs)) : kvs.length ≤ sizeLine ∧ (a == sysModules) = false ∧ ∃ vs, KV kvs vs ∧ h.DictOf (mixKind P w) a vs := dk_rd ok (.inl e)
/-- a tracked tuple of ints and texts is a key -/
theorem key_of {ks : List Key} (ok : HOk P w H h) (e : H a = some (.tup (ks.map kV))) : (tupleKind (mixKind P w)).is h ks a := by
  obtain ⟨_, its, r, o, h1, h2, n, h3⟩ := (show ObjOk P w H h a (.tup (ks.map kV)) from ok a _ e)
  exact ⟨o, its.toArray, n, h1, h2.1, h3, by simpa using items_are r⟩
theorem dt_rd {kvs : List (List Key × V)} (ok : HOk P w H h) (e : Rd H a (.dT kvs)) : kvs.length ≤ sizeLine ∧ (a == sysModules) = false ∧
    ∃ xs, KT H kvs xs ∧ h.DictOfH (tupleKind (mixKind P w)) a xs := by
  obtain ⟨z, y, xs, r, o, es, ep, h1, h2, h3, h4, h5⟩ := (show ObjOk P w H h a (.dT kvs) from rd_of ok e)
  refine ⟨z, y, xs, r, o, es, ep, h1, h2, h3, h4, fun x hx => ?_, h5⟩
  have all : ∀ {l : List (List Key × V)} {m : List (List Key × Addr × Value)}, KT H l m → ∀ x ∈ m, (tupleKind (mixKind P w)).is h x.1 x.2.1 := by
    intro l m q
    induction q with
    | nil => intro x hx; exact nomatch hx
    | @cons p q ps qs hq t ih =>
      intro x hx
      rcases List.mem_cons.mp hx with e | hx
      · subst e
        exact key_of ok (by rw [← hq.1]; exact hq.2.1)
      · exact ih x hx
  exact all r x hx
end

/-- what the dict at a holds at the key y -/
def DGet (H : Hp) (a : Addr) (y : V) (r : Option V) : Prop :=
  (∃ kvs k, Rd H a (.dK kvs) ∧ y = kV k ∧ r = valV kvs k) ∨ ∃ kvs k b, Rd H a (.dT kvs) ∧ y = .ref b ∧ H b = some (.tup (k.map kV)) ∧ r = valV kvs k
/-- the heap behind a[y] = v -/
def DPut (H : Hp) (a : Addr) (y v : V) (H' : Hp) : Prop :=
  (∃ kvs k, H a = some (.dK kvs) ∧ y = kV k ∧ kvs.length < sizeLine ∧ H' = upd H a (.dK (putK kvs k v))) ∨
  ∃ kvs k b, H a = some (.dT kvs) ∧ y = .ref b ∧ H b = some (.tup (k.map kV)) ∧ kvs.length < sizeLine ∧ H' = upd H a (.dT (putK kvs k v))
theorem DGet.k {H : Hp} {a : Addr} {kvs : List (Key × V)} {k : Key} (e : H a = some (.dK kvs)) : DGet H a (kV k) (valV kvs k) := .inl ⟨kvs, k, .inl e, rfl, rfl⟩
theorem DGet.t {H : Hp} {a b : Addr} {kvs : List (List Key × V)} {k : List Key} (e : H a = some (.dT kvs)) (eb : H b = some (.tup (k.map kV))) : DGet H a (.ref b) (valV kvs k) := .inr ⟨kvs, k, b, .inl e, rfl, eb, rfl⟩
theorem DPut.k {H : Hp} {a : Addr} {kvs : List (Key × V)} {k : Key} {v : V} (e : H a = some (.dK kvs)) (hl : kvs.length < sizeLine) : DPut H a (kV k) v (upd H a (.dK (putK kvs k v))) := .inl ⟨kvs, k, e, rfl, hl, rfl⟩
theorem DPut.t {H : Hp} {a b : Addr} {kvs : List (List Key × V)} {k : List Key} {v : V} (e : H a = some (.dT kvs)) (eb : H b = some (.tup (k.map kV))) (hl : kvs.length < sizeLine) :
    DPut H a (.ref b) v (upd H a (.dT (putK kvs k v))) := .inr ⟨kvs, k, b, e, rfl, eb, hl, rfl⟩


section
variable {X : Cx} {pins : List (Addr × Obj)} {σ : St} {H : Hp} {s : Shared} {a : Addr} {y v : V} {u r : Value} {o : Option V} {A : Around} {E : Value → Shared → Prop}

theorem Inv.big (I : Inv X pins σ H s) : sysModules < s.heap.objs.size := by
  have h : mainGlobals < s.heap.objs.size := (I.mod.glob.keeps I.bk).lt
  exact Nat.lt_trans (by decide) h

/-- d[y], there -/
theorem d_getItem {Q : Value → Shared → Prop} (hu : A.units + 1 < cLine) (I : Inv X pins σ H s) (g : DGet H a y (some v)) (ry : RelV y u) (h : ∀ w' s', Inv X pins σ H s' → RelV v w' → Q w' s') :
    wpAny (model X.prog X.w) A (getItem (.ref a) u) Q E s := by
  rcases g with ⟨kvs, k, e, ey, l⟩ | ⟨kvs, k, b, e, ey, eb, l⟩
  · subst ey
    obtain ⟨z, hd, vs, rel, dd⟩ := dk_rd I.hok e
    obtain ⟨w', hw, rw'⟩ := RelO.some_of (v := v) (o := valueAt vs k) (by rw [l]; exact rel.val k)
    exact wpAny_getItem_of (kV_is ry) dd.mapOf hw (h w' _ (I.tok _) rw')
  · subst ey
    cases (show u = Value.ref b from ry)
    obtain ⟨z, hd, xs, rel, dd⟩ := dt_rd I.hok e
    obtain ⟨w', hw, rw'⟩ := RelO.some_of (v := v) (o := (atKey xs k).map (·.2)) (by rw [l]; exact rel.val k)
    obtain ⟨p, hp, hp2⟩ := Option.map_eq_some_iff.mp hw
    refine wpAny_getItem_heap (tupleKind_room_in1 hu) (key_of I.hok eb) dd hp ?_
    rw [hp2]
    exact h w' _ (I.tok _) rw'
/-- y in d -/
theorem d_in {Q : Value → Shared → Prop} (hu : A.units + 1 < cLine) (I : Inv X pins σ H s) (g : DGet H a y o) (ry : RelV y u) (h : ∀ s', Inv X pins σ H s' → Q (.bool o.isSome) s') :
    wpAny (model X.prog X.w) A (compareOp .In u (.ref a)) Q E s := by
  rcases g with ⟨kvs, k, e, ey, l⟩ | ⟨kvs, k, b, e, ey, eb, l⟩
  · subst ey
    obtain ⟨z, hd, vs, rel, dd⟩ := dk_rd I.hok e
    refine wpAny_in_of (kV_is ry) hd dd.mapOf ?_
    rw [← (rel.val k).isSome_eq, ← l]
    exact h _ (I.tok _)
  · subst ey
    cases (show u = Value.ref b from ry)
    obtain ⟨z, hd, xs, rel, dd⟩ := dt_rd I.hok e
    refine wpAny_in_heap (tupleKind_room_in1 hu) (key_of I.hok eb) hd dd ?_
    have q := (rel.val k).isSome_eq
    rw [Option.isSome_map] at q
    rw [← q, ← l]
    exact h _ (I.tok _)
/-- a dict's object is replaced -/
theorem d_write {h' : Heap} {t' : Nat} {ob : HO} (I : Inv X pins σ H s) (mu : Mut (H a)) (hs : Heap.SameBut a s.heap h') (he : ∃ q, h'.get? a = some q) (new : ObjOk X.prog X.w (upd H a ob) h' a ob) :
    Inv X pins σ (upd H a ob) { s with heap := h', toks := t' } :=
  I.write (x := a) (e := a) mu (.inl rfl) (fun b q hb z => (hs.2 b hb).trans z) he new
theorem dk_new {P : Program} {w : World} {H' : Hp} {h' : Heap} {kvs : List (Key × V)} {vs : List (Key × Value)} (z : kvs.length ≤ sizeLine) (hd : (a == sysModules) = false) (rel : KV kvs vs) (dd : h'.DictOf (mixKind P w) a vs) :
    ObjOk P w H' h' a (.dK kvs) := ⟨z, hd, vs, rel, dd⟩
end

section
variable {X : Cx} {pins : List (Addr × Obj)} {σ : St} {H : Hp} {s : Shared} {a : Addr} {kvs : List (Key × V)} {k : Key} {u : Value} {A : Around} {E : Value → Shared → Prop}
end


/-! ### readings and rules -/
/-- the element of a subscription, not a slice -/
def NoSl (i : Expr) : Prop := ∀ ov iv, subscripted i false ov iv = operate [ov, iv] (getItem ov iv)
theorem subD_of {prog : Program} {w : World} {A : Around} {E : Value → Shared → Prop} {s : Shared} {env : Env} {value slice : Expr} {pos : Pos} {T id : String} {Q : Value → Shared → Prop}
    (hl : typeLookup (.type T) "__getitem__" = pure (some (.builtin id))) (hs : NoSl slice)
    (h : wpAny (model prog w) A (eval value env) (fun o s₁ => wpAny (model prog w) A (eval slice env) (fun i s₂ => s₂.TypeIs o T ∧ wpAny (model prog w) A (getItem o i) Q E s₂) E s₁) E s) :
    wpAny (model prog w) A (eval (.Subscript value slice pos) env) Q E s := by
  refine Subscript_ (wpAny_mono h (fun o s₁ h₁ => wpAny_mono h₁ (fun i s₂ h₂ => ?_) fun _ _ x => x) fun _ _ x => x)
  obtain ⟨hT, h₂⟩ := h₂
  unfold subscriptTail
  refine wpAny_bind ?_
  rw [getitemInPython_of_ne hT.not_modules]
  refine wpAny_bind (wpAny_specialOf hT hl ?_)
  have fin : wpAny (model prog w) A (subscripted slice false o i) (fun r s₃ => wpAny (model prog w) A (letTemporaryGo value o r >>= fun _ => pure r) Q E s₃) E s₂ := by
    rw [hs o i]
    exact wpAny_operating (wpAny_mono h₂ (fun r s₃ h₃ => wpAny_bind (wpAny_letTemporaryGo (wpAny_pure h₃))) fun _ _ x => x)
  first
    | exact wpAny_pure (wpAny_bind fin)
    | exact wpAny_bind (wpAny_pure (wpAny_bind fin))
    | exact wpAny_bind fin

theorem dict_typeIs {X : Cx} {pins : List (Addr × Obj)} {σ : St} {H : Hp} {s : Shared} {a : Addr} {y : V} {o : Option V} (I : Inv X pins σ H s) (g : DGet H a y o) : s.TypeIs (.ref a) "dict" := by
  rcases g with ⟨kvs, k, e, _, _⟩ | ⟨kvs, k, b, e, _, _, _⟩
  · obtain ⟨_, _, vs, _, dd⟩ := dk_rd I.hok e
    exact dd.typeIs
  · obtain ⟨_, _, xs, _, dd⟩ := dt_rd I.hok e
    exact dd.typeIs

/-- d[y] -/
def tDGet (td ty : TE) : TE := fun σ H Q => td σ H fun x H1 => ty σ H1 fun y H2 => ∃ a v, x = .ref a ∧ DGet H2 a y (some v) ∧ Q v H2
/-- y in d, y not in d -/
def tDIn (ty td : TE) : TE := fun σ H Q => ty σ H fun y H1 => td σ H1 fun x H2 => ∃ a o, x = .ref a ∧ DGet H2 a y o ∧ Q (.bl o.isSome) H2

section
variable {X : Cx} {o i e value : Expr} {pos pos' tpos : Pos} {td ty tv : TE}
theorem pe_dget (hu : X.A.units + 1 < cLine) (ho : PE X o td) (hi : PE X i ty) (hs : NoSl i) : PE X (.Subscript o i pos) (tDGet td ty) := by
  intro pins s σ H Q I h
  refine subD_of PySem.F.slot_dict_getitem.lookup hs (thn (ho pins s σ H _ I h) fun u s1 ⟨x, H1, I1, rx, q1⟩ => thn (hi pins s1 σ H1 _ I1 q1) fun iv s2 ⟨y, H2, I2, ry, a, v, ex, g, q2⟩ => ?_)
  subst ex
  obtain rfl : u = Value.ref a := rx
  exact ⟨dict_typeIs I2 g, d_getItem hu I2 g ry fun w' s3 I3 rw' => ⟨v, H2, I3, rw', q2⟩⟩
theorem pc_din (hu : X.A.units + 1 < cLine) (hi : PE X i ty) (ho : PE X o td) : PC X .In i o (tDIn ty td) := by
  intro pins s σ H Q I h
  refine thn (hi pins s σ H _ I h) fun iv s1 ⟨y, H1, I1, ry, q1⟩ => thn (ho pins s1 σ H1 _ I1 q1) fun u s2 ⟨x, H2, I2, rx, a, ov, ex, g, q2⟩ => ?_
  subst ex
  obtain rfl : u = Value.ref a := rx
  exact d_in hu I2 g ry fun s3 I3 => ⟨.bl ov.isSome, H2, I3, rfl, q2⟩
end


/-! ### displays -/
theorem dk_empty {P : Program} {w : World} {H : Hp} (h : Heap) (hb : sysModules < h.objs.size) : ObjOk P w H (h.push { cls := .type "dict", data := .dict #[] }) h.objs.size (.dK []) :=
  ⟨Nat.zero_le _, beq_eq_false_iff_ne.mpr (Ne.symm (Nat.ne_of_lt hb)), [], .nil, Heap.DictOf.new h⟩
section
variable {X : Cx} {pos : Pos}
end

/-- the pairs of a display, from the left -/
def tPairs : List (TE × TE) → St → Hp → (List (V × V) → Hp → Prop) → Prop
  | [], _, H, Q => Q [] H
  | (tk, tv) :: r, σ, H, Q => tk σ H fun x H1 => tv σ H1 fun y H2 => tPairs r σ H2 fun ps H3 => Q ((x, y) :: ps) H3
abbrev VV : List (V × V) → List (Value × Value) → Prop := Paired fun p q => RelV p.1 q.1 ∧ RelV p.2 q.2
def PPs (X : Cx) (pos : Pos) (keys : List (Option Expr)) (values : List Expr) (trs : List (TE × TE)) : Prop :=
  ∀ (pins : List (Addr × Obj)) (s : Shared) (σ : St) (H : Hp) (Q : List (V × V) → Hp → Prop), Inv X pins σ H s → tPairs trs σ H Q →
    wpAny (model X.prog X.w) X.A (evalPairs (pairTrees keys values X.env pos)) (fun vs s' => ∃ ps H', Inv X pins σ H' s' ∧ VV ps vs ∧ Q ps H') X.xe s
theorem pps_nil {X : Cx} {pos : Pos} : PPs X pos [] [] [] := fun pins s σ H Q I h => pairTrees_nil_walk ⟨[], H, I, .nil, h⟩
theorem pps_cons {X : Cx} {pos : Pos} {k v : Expr} {ks : List (Option Expr)} {vs : List Expr} {tk tv : TE} {trs : List (TE × TE)} (hk : PE X k tk) (hv : PE X v tv) (hr : PPs X pos ks vs trs) :
    PPs X pos (some k :: ks) (v :: vs) ((tk, tv) :: trs) := fun pins s σ H Q I h =>
  pairTrees_cons_walk (thn (hk pins s σ H _ I h) fun u s1 ⟨x, H1, I1, rx, q1⟩ => thn (hv pins s1 σ H1 _ I1 q1) fun w2 s2 ⟨y, H2, I2, ry, q2⟩ =>
    thn (hr pins s2 σ H2 _ I2 q2) fun ws s3 ⟨ps, H3, I3, rel, q3⟩ => ⟨(x, y) :: ps, H3, I3, .cons ⟨rx, ry⟩ rel, q3⟩)

def mergeK (kvs more : List (Key × V)) : List (Key × V) := more.foldl (fun acc kv => putK acc kv.1 kv.2) kvs
theorem KV.merge : ∀ {more : List (Key × V)} {rs : List (Key × Value)} {kvs : List (Key × V)} {vs : List (Key × Value)}, KV more rs → KV kvs vs → KV (mergeK kvs more) (merged vs rs) := by
  intro more rs kvs vs r
  unfold KV at r
  induction r generalizing kvs vs with
  | nil => intro q; exact q
  | @cons p q ps qs h t ih =>
    intro r0
    have e : KV (putK kvs p.1 p.2) (stored vs q.1 q.2) := by
      have := r0.put p.1 h.2
      rw [← h.1]; exact this
    exact ih e
theorem length_mergeK : ∀ (more kvs : List (Key × V)), (mergeK kvs more).length ≤ kvs.length + more.length
  | [], kvs => by show kvs.length ≤ kvs.length + 0; omega
  | p :: r, kvs => by
    have h1 := length_mergeK r (putK kvs p.1 p.2)
    have h2 := length_putK kvs p.1 p.2
    show (mergeK (putK kvs p.1 p.2) r).length ≤ _
    rw [List.length_cons]; omega
theorem carries_of {P : Program} {w : World} : ∀ {kvs : List (Key × V)} {ws : List (Value × Value)}, VV (kvs.map fun kv => (kV kv.1, kv.2)) ws → ∃ rs, Carries (mixKind P w) ws rs ∧ KV kvs rs
  | [], _, r => by rw [List.map_nil] at r; cases r; exact ⟨[], True.intro, .nil⟩
  | p :: kvs, _, r => by
    rw [List.map_cons] at r
    cases r with
    | @cons a b as bs h t =>
      obtain ⟨rs, c, q⟩ := carries_of (P := P) (w := w) t
      obtain ⟨b1, b2⟩ := b
      exact ⟨(p.1, b2) :: rs, ⟨kV_is h.1, rfl, c⟩, .cons ⟨rfl, h.2⟩ q⟩
/-- {k: v, ..} with keys ints and texts; the new dict stands empty while the pairs are made -/
def tDisp (trs : List (TE × TE)) : TE := fun σ H Q => ∀ p, H p = none → tPairs trs σ (upd H p (.dK [])) fun ps H2 => H2 p = some (.dK []) ∧ ∃ kvs : List (Key × V), ps = kvs.map (fun kv => (kV kv.1, kv.2)) ∧ kvs.length ≤ 15 ∧ Q (.ref p) (upd H2 p (.dK (mergeK [] kvs)))
theorem pe_disp {X : Cx} {pos : Pos} {keys : List (Option Expr)} {values : List Expr} {trs : List (TE × TE)} (h : PPs X pos keys values trs) (hall : keys.all (·.isSome) = true) (hl : keys.length = values.length) (h0 : keys ≠ [])
    (h15 : keys.length ≤ 15) : PE X (.Dict keys values pos) (tDisp trs) := by
  intro pins s σ H Q I q
  have hn := I.hok.fresh (Nat.le_refl s.heap.objs.size)
  have I1 := I.laid (a := s.heap.objs.size) (o := .dK []) (h' := s.heap.push { cls := .type "dict", data := .dict #[] }) (t' := s.toks) (fun _ _ q => Heap.get?_push_of_some _ q) (Nat.le_refl _) (dk_empty s.heap I.big)
  refine wpAny_Dict_walk (knd := mixKind X.prog X.w) hall hl h0 h15 (thn (h pins _ σ _ _ I1 (q _ hn)) fun ws s2 ⟨ps, H2, I2, rel, e, kvs, ep, lk, q2⟩ => ?_)
  subst ep
  obtain ⟨rs, c, rk⟩ := carries_of (P := X.prog) (w := X.w) rel
  obtain ⟨z, hd, vs0, r0, dd⟩ := dk_of I2.hok e
  cases r0
  refine ⟨rs, c, dd, fun h' dd' hs => ⟨.ref s.heap.objs.size, _, ?_, rfl, q2⟩⟩
  have hz : (mergeK [] kvs).length ≤ sizeLine := by
    have h1 := length_mergeK kvs []
    rw [List.length_nil] at h1
    rw [sizeLine_eq]; omega
  have he : ∃ q, h'.get? s.heap.objs.size = some q := let ⟨q, _, _, hq, _⟩ := dd'; ⟨q, hq⟩
  exact d_write I2 (by rw [e]; exact True.intro) hs he (dk_new hz hd (rk.merge .nil) dd')


/-! ### methods -/
/-- a method call o.m(e) of a built-in, with one argument: what must be seen of the text -/
structure M1 (X : Cx) (o : Expr) (m : Str) (apos : Pos) (e : Expr) (cpos : Pos) : Prop where
  base : attributeBase o m X.env (eval o X.env) = eval o X.env
  few : ((backTo cpos (starEach [e] X.env)).all (fun x => !x.1) && (backToKw cpos (keywordEach [] X.env)).all (fun x => x.1.isSome)
    && decide (([e] : List Expr).length + ([] : List Keyword).length + (if ([] : List Keyword).isEmpty then 0 else 1) < 30)) = true
  line : (apos.endLine == cpos.line) = true
  trees : backTo cpos (starEach [e] X.env) = [(false, eval e X.env)]
structure M2 (X : Cx) (o : Expr) (m : Str) (apos : Pos) (e f : Expr) (cpos : Pos) : Prop where
  base : attributeBase o m X.env (eval o X.env) = eval o X.env
  few : ((backTo cpos (starEach [e, f] X.env)).all (fun x => !x.1) && (backToKw cpos (keywordEach [] X.env)).all (fun x => x.1.isSome)
    && decide (([e, f] : List Expr).length + ([] : List Keyword).length + (if ([] : List Keyword).isEmpty then 0 else 1) < 30)) = true
  line : (apos.endLine == cpos.line) = true
  trees : backTo cpos (starEach [e, f] X.env) = [(false, eval e X.env), (false, eval f X.env)]


section
variable {X : Cx} {pins : List (Addr × Obj)} {σ : St} {H : Hp} {s : Shared} {a : Addr} {y d : V} {u r : Value} {o : Option V} {A : Around} {E : Value → Shared → Prop}
end

section
variable {X : Cx} {o e f : Expr} {apos cpos : Pos} {td ty tx : TE}
end

/-! ### dict(d): a copy -/
section
variable {X : Cx} {pins : List (Addr × Obj)} {σ : St} {H : Hp} {s : Shared} {a : Addr} {kvs : List (Key × V)} {A : Around} {E : Value → Shared → Prop}
end


section
variable {X : Cx} {pins : List (Addr × Obj)} {σ : St} {H : Hp} {s : Shared} {a : Addr} {y : V} {u : Value} {A : Around} {E : Value → Shared → Prop}
end
end L2

/-! ### E1: list comprehensions over the hand layer -/
namespace L2
open PySem PySem.Spec PyProof.Rows

/-- the cells that a comprehension's block takes from around -/
def closL (cells : List (Str × Addr)) : List (Str × NameKind) → List (Str × Addr) → List (Str × Addr)
  | [], acc => acc
  | (n, k) :: r, acc => if k == .free then closL cells r ((n, (cells.lookup n).getD 0) :: acc) else closL cells r acc

theorem closL_forIn {env : Env} (f : Str × NameKind → List (Str × Addr) → Sem (ForInStep (List (Str × Addr))))
    (hf : ∀ n k cs, f (n, k) cs = if k == .free then (do let a ← cellOf env n; pure (.yield ((n, a) :: cs))) else pure (.yield cs)) :
    ∀ (names : List (Str × NameKind)) (acc : List (Str × Addr)), (∀ n, (n, NameKind.free) ∈ names → ∃ c, env.cells.lookup n = some c) → forIn names acc f = pure (closL env.cells names acc)
  | [], acc, _ => by rw [List.forIn_nil]; rfl
  | (n, k) :: r, acc, h => by
    have hr := closL_forIn f hf r
    rw [List.forIn_cons, hf]
    unfold closL
    by_cases hk : (k == NameKind.free) = true
    · rw [if_pos hk, if_pos hk]
      have ek : k = .free := eq_of_beq hk
      subst ek
      obtain ⟨c, e⟩ := h n List.mem_cons_self
      have e1 : cellOf env n = pure c := by unfold cellOf; rw [e]
      rw [e1, e]
      exact hr _ fun m hm => h m (List.mem_cons_of_mem _ hm)
    · rw [if_neg hk, if_neg hk]
      exact hr _ fun m hm => h m (List.mem_cons_of_mem _ hm)

theorem closureFor_closL {scope : Scope} {env : Env} (h : ∀ n, (n, NameKind.free) ∈ scope.names → ∃ c, env.cells.lookup n = some c) : closureFor scope env = pure (closL env.cells scope.names []) := by
  simp only [closureFor]
  rw [closL_forIn _ (fun n k cs => by cases hkc : k == NameKind.free <;> simp [hkc]) scope.names [] h]
  rfl

theorem closL_mem {cells : List (Str × Addr)} : ∀ (names : List (Str × NameKind)) (acc : List (Str × Addr)) {x : Str} {c : Addr}, (x, c) ∈ closL cells names acc → (x, c) ∈ acc ∨ ((x, NameKind.free) ∈ names ∧ c = (cells.lookup x).getD 0)
  | [], _, _, _, h => .inl h
  | (n, k) :: r, acc, x, c, h => by
    unfold closL at h
    by_cases hk : (k == NameKind.free) = true
    · rw [if_pos hk] at h
      have ek : k = .free := eq_of_beq hk
      subst ek
      rcases closL_mem r _ h with z | ⟨z1, z2⟩
      · rcases List.mem_cons.mp z with q | q
        · cases q
          exact .inr ⟨List.mem_cons_self, rfl⟩
        · exact .inl q
      · exact .inr ⟨List.mem_cons_of_mem _ z1, z2⟩
    · rw [if_neg hk] at h
      rcases closL_mem r _ h with z | ⟨z1, z2⟩
      · exact .inl z
      · exact .inr ⟨List.mem_cons_of_mem _ z1, z2⟩

theorem lookup_some_of_mem {α : Type} {x : Str} {c : α} : ∀ {l : List (Str × α)}, (x, c) ∈ l → (l.lookup x).isSome = true
  | (n, d) :: r, h => by
    rw [List.lookup_cons]
    cases hb : x == n with
    | true => rfl
    | false =>
      rcases List.mem_cons.mp h with q | q
      · cases q
        simp at hb
      · exact lookup_some_of_mem q

theorem closL_has {cells : List (Str × Addr)} {x : Str} : ∀ (names : List (Str × NameKind)) (acc : List (Str × Addr)), (x, NameKind.free) ∈ names ∨ (∃ c, (x, c) ∈ acc) → ∃ c, (x, c) ∈ closL cells names acc
  | [], _, h => h.elim (fun z => nomatch z) id
  | (n, k) :: r, acc, h => by
    unfold closL
    by_cases hk : (k == NameKind.free) = true
    · rw [if_pos hk]
      refine closL_has r _ ?_
      rcases h with z | ⟨c, z⟩
      · rcases List.mem_cons.mp z with q | q
        · cases q
          exact .inr ⟨_, List.mem_cons_self⟩
        · exact .inl q
      · exact .inr ⟨c, List.mem_cons_of_mem _ z⟩
    · rw [if_neg hk]
      refine closL_has r _ ?_
      rcases h with z | z
      · rcases List.mem_cons.mp z with q | q
        · cases q
          exact absurd (by rfl) hk
        · exact .inl q
      · exact .inr z

theorem cellsFrom_mem : ∀ (names : List (Str × NameKind)) (h : Heap) (acc : List (Str × Addr)) {x : Str} {c : Addr}, (x, c) ∈ cellsFrom h.objs.size names acc →
    (x, c) ∈ acc ∨ ((x, NameKind.cell) ∈ names ∧ h.objs.size ≤ c ∧ (pushCells h names).IsCell c none)
  | [], _, _, _, _, hm => .inl hm
  | (n, k) :: r, h, acc, x, c, hm => by
    unfold cellsFrom at hm
    unfold pushCells
    by_cases hk : (k == NameKind.cell) = true
    · rw [if_pos hk] at hm
      rw [if_pos hk]
      have ek : k = .cell := eq_of_beq hk
      subst ek
      have e : (h.push { cls := .type "cell", data := .cell none }).objs.size = h.objs.size + 1 := Heap.size_push ..
      rw [← e] at hm
      rcases cellsFrom_mem r _ _ hm with z | ⟨z1, z2, z3⟩
      · rcases List.mem_cons.mp z with q | q
        · cases q
          exact .inr ⟨List.mem_cons_self, Nat.le_refl _, ⟨_, pushCells_keeps r _ _ _ (Heap.get?_push_size _ rfl), rfl⟩⟩
        · exact .inl q
      · exact .inr ⟨List.mem_cons_of_mem _ z1, by omega, z3⟩
    · rw [if_neg hk] at hm
      rw [if_neg hk]
      rcases cellsFrom_mem r h acc hm with z | ⟨z1, z2, z3⟩
      · exact .inl z
      · exact .inr ⟨List.mem_cons_of_mem _ z1, z2, z3⟩

theorem cellsFrom_has {x : Str} : ∀ (names : List (Str × NameKind)) (n : Nat) (acc : List (Str × Addr)), (x, NameKind.cell) ∈ names ∨ (∃ c, (x, c) ∈ acc) → ∃ c, (x, c) ∈ cellsFrom n names acc
  | [], _, _, h => h.elim (fun z => nomatch z) id
  | (y, k) :: r, n, acc, h => by
    unfold cellsFrom
    by_cases hk : (k == NameKind.cell) = true
    · rw [if_pos hk]
      refine cellsFrom_has r _ _ ?_
      rcases h with z | ⟨c, z⟩
      · rcases List.mem_cons.mp z with q | q
        · cases q
          exact .inr ⟨_, List.mem_cons_self⟩
        · exact .inl q
      · exact .inr ⟨c, List.mem_cons_of_mem _ z⟩
    · rw [if_neg hk]
      refine cellsFrom_has r _ _ ?_
      rcases h with z | z
      · rcases List.mem_cons.mp z with q | q
        · cases q
          exact absurd (by rfl) hk
        · exact .inl q
      · exact .inr z

theorem cellsFrom_inj (lo : Nat) : ∀ (names : List (Str × NameKind)) (n : Nat) (acc : List (Str × Addr)), (∀ x y c, (x, c) ∈ acc → (y, c) ∈ acc → lo ≤ c → x = y) → (∀ p ∈ acc, p.2 < n) →
    ∀ x y c, (x, c) ∈ cellsFrom n names acc → (y, c) ∈ cellsFrom n names acc → lo ≤ c → x = y
  | [], _, _, h, _ => h
  | (m, k) :: r, n, acc, h, hb => by
    unfold cellsFrom
    by_cases hk : (k == NameKind.cell) = true
    · rw [if_pos hk]
      refine cellsFrom_inj lo r (n + 1) ((m, n) :: acc) (fun x y c hx hy hc => ?_) fun p hp => ?_
      · rcases List.mem_cons.mp hx with q | q <;> rcases List.mem_cons.mp hy with q' | q'
        · cases q; cases q'; rfl
        · cases q
          exact absurd (hb _ q') (Nat.lt_irrefl _)
        · cases q'
          exact absurd (hb _ q) (Nat.lt_irrefl _)
        · exact h x y c q q' hc
      · rcases List.mem_cons.mp hp with q | q
        · cases q; exact Nat.lt_succ_self _
        · exact Nat.lt_succ_of_lt (hb p q)
    · rw [if_neg hk]
      exact cellsFrom_inj lo r n acc h hb

/-- a name's kind within the block -/
theorem lookup_relabel (env : Env) (x : Str) : ∀ names : List (Str × NameKind),
    (names.map fun (n, k) => if (k == NameKind.free && env.scope.kind == .function && env.kindOf n == some .cell) then (n, NameKind.cell) else (n, k)).lookup x =
      (names.lookup x).map fun k => if (k == NameKind.free && env.scope.kind == .function && env.kindOf x == some .cell) then NameKind.cell else k
  | [] => rfl
  | (n, k) :: r => by
    have ih := lookup_relabel env x r
    show List.lookup x ((if (k == NameKind.free && env.scope.kind == .function && env.kindOf n == some .cell) = true then (n, NameKind.cell) else (n, k)) :: _) = _
    cases hx : x == n with
    | true =>
      have e := eq_of_beq hx
      subst e
      by_cases hc : (k == NameKind.free && env.scope.kind == .function && env.kindOf x == some .cell) = true
      · rw [if_pos hc]
        simp only [List.lookup_cons, beq_self_eq_true, Option.map_some, hc, if_true]
      · rw [if_neg hc]
        simp only [List.lookup_cons, beq_self_eq_true, Option.map_some]
        rw [if_neg hc]
    | false =>
      by_cases hc : (k == NameKind.free && env.scope.kind == .function && env.kindOf n == some .cell) = true
      · rw [if_pos hc]; simp only [List.lookup_cons, hx]; exact ih
      · rw [if_neg hc]; simp only [List.lookup_cons, hx]; exact ih

theorem wpAny_newFunctionEnv_comp {M : Model} {A : Around} {E : Value → Shared → Prop} {s : Shared} {scope : Scope} {globals : Addr} {closure : List (Str × Addr)} {qual : Str} {env : Env} {Q : Env → Shared → Prop}
    (hQ : Q (newEnv scope s.heap.objs.size globals (cellsFrom (s.heap.objs.size + 1) scope.names closure) qual none .none (some env) builtinsNs)
      { s with heap := pushCells (s.heap.push { cls := .type "dict", data := .dict #[] }) scope.names }) :
    wpAny M A (newFunctionEnv scope globals closure [] qual none .none (some env)) Q E s := by
  simp only [newFunctionEnv, Option.isSome_some, if_true]
  refine wpAny_bind (wpAny_alloc ?_)
  refine wpAny_bind (wpAny_layCells _ (fun name kind cells => by cases hkc : kind == NameKind.cell <;> simp [hkc]) _ _ _ _ ?_)
  rw [show ({ s with heap := s.heap.push { cls := .type "dict", data := .dict #[] } } : Shared).heap.objs.size = s.heap.objs.size + 1 from Heap.size_push ..]
  refine wpAny_bind ?_
  rw [List.forIn_nil]
  exact wpAny_pure (wpAny_pure hQ)

/-! ### the block's context -/
/-- which names of around are taken; each slot of around is taken under its own name, or not seen -/
def capOk (out names : List (Str × NameKind)) : Bool := names.all fun p => !(decide (p.2 = NameKind.free)) || (decide (out.lookup p.1 = some NameKind.cell) || decide (out.lookup p.1 = some NameKind.free))
def nmOk (N N' : List Str) (names : List (Str × NameKind)) : Bool := (List.range N.length).all fun i => match N'[i]? with
  | some y => decide (names.lookup y = none) || (decide (names.lookup y = some NameKind.free) && decide (N[i]? = some y))
  | none => false
structure CompScope (N : List Str) (out : List (Str × NameKind)) (N' : List Str) (k : Nat) (sc : Scope) : Prop where
  kind : sc.kind = .function
  len : N'.length = N.length + k
  cap : capOk out sc.names = true
  nm : nmOk N N' sc.names = true
  uniq : sc.names.all (fun p => decide (sc.names.lookup p.1 = some p.2)) = true

def cxComp (X : Cx) (N' : List Str) (sc : Scope) (s : Shared) (H : Hp) (fp : List Addr) (pins : List (Addr × Obj)) (E : Value → Shared → Prop) : Cx where
  prog := X.prog
  w := X.w
  K := X.K
  mg := X.mg
  base := X.base
  A := X.A
  N := N'
  s₀ := s
  H₀ := H
  env := compEnvC sc (cellsFrom (s.heap.objs.size + 1) sc.names (closL X.env.cells sc.names [])) s.heap.objs.size X.env
  outer := X.stack
  stack := X.stack
  ex := fp
  fn := fun x => decide (sc.names.lookup x = some .cell)
  calm := X.calm
  pn := X.pn ++ pins
  xe := E

section
variable {X : Cx} {N' : List Str} {k : Nat} {sc : Scope} {pins : List (Addr × Obj)} {σ : St} {H : Hp} {s : Shared} {fp : List Addr} {E : Value → Shared → Prop}

theorem CompScope.fr (S : CompScope X.N X.env.scope.names N' k sc) {x : Str} (h : (x, NameKind.free) ∈ sc.names) : X.env.kindOf x = some .cell ∨ X.env.kindOf x = some .free := by
  have q := List.all_eq_true.mp S.cap _ h
  simp at q
  exact q
theorem CompScope.look {N : List Str} {out : List (Str × NameKind)} (S : CompScope N out N' k sc) {x : Str} {kd : NameKind} (h : (x, kd) ∈ sc.names) : sc.names.lookup x = some kd := by
  have q := List.all_eq_true.mp S.uniq _ h
  exact of_decide_eq_true q

theorem comp_inv (S : CompScope X.N X.env.scope.names N' k sc) (I : Inv X pins σ H s) (hf : ∀ b ∈ fp, FpOk X pins H b) (hlt : ∀ b ∈ fp, b < s.heap.objs.size) :
    Inv (cxComp X N' sc s H fp pins E) [] (σ ++ List.replicate k none) H { s with heap := pushCells (s.heap.push { cls := .type "dict", data := .dict #[] }) sc.names } := by
  have keeps : ∀ b o, s.heap.get? b = some o → (pushCells (s.heap.push { cls := .type "dict", data := .dict #[] }) sc.names).get? b = some o := fun b o e => pushCells_keeps _ _ _ _ (Heap.get?_push_of_some _ e)
  have hsz : (s.heap.push { cls := .type "dict", data := .dict #[] }).objs.size = s.heap.objs.size + 1 := Heap.size_push ..
  have hns : (pushCells (s.heap.push { cls := .type "dict", data := .dict #[] }) sc.names).Ns s.heap.objs.size (fun _ => none) := (Heap.Ns.new s.heap (.type "dict")).keeps (pushCells_keeps _ _)
  have frc : ∀ x, (x, NameKind.free) ∈ sc.names → ∃ c, X.env.cells.lookup x = some c := fun x h => I.ok.has x (S.fr h)
  -- what a cell of the block is
  have cm : ∀ x c, (x, c) ∈ cellsFrom (s.heap.objs.size + 1) sc.names (closL X.env.cells sc.names []) →
      ((x, NameKind.cell) ∈ sc.names ∧ s.heap.objs.size + 1 ≤ c ∧ (pushCells (s.heap.push { cls := .type "dict", data := .dict #[] }) sc.names).IsCell c none) ∨ ((x, NameKind.free) ∈ sc.names ∧ X.env.cells.lookup x = some c) := fun x c h => by
    rw [← hsz] at h
    rcases cellsFrom_mem _ _ _ h with z | ⟨z1, z2, z3⟩
    · rcases closL_mem _ _ z with z | ⟨z1, z2⟩
      · exact nomatch z
      · obtain ⟨c', e⟩ := frc x z1
        rw [e] at z2
        cases z2
        exact .inr ⟨z1, e⟩
    · exact .inl ⟨z1, by omega, z3⟩
  have cl : ∀ x c, (cellsFrom (s.heap.objs.size + 1) sc.names (closL X.env.cells sc.names [])).lookup x = some c → (x, c) ∈ cellsFrom (s.heap.objs.size + 1) sc.names (closL X.env.cells sc.names []) := fun x c h => PySem.mem_of_lookup h
  have clt : ∀ x c, X.env.cells.lookup x = some c → c < s.heap.objs.size := fun x c h => by
    obtain ⟨v, q⟩ := I.cell x c h
    exact q.lt
  have has : ∀ x, (x, NameKind.cell) ∈ sc.names ∨ (x, NameKind.free) ∈ sc.names → ∃ c, (cellsFrom (s.heap.objs.size + 1) sc.names (closL X.env.cells sc.names [])).lookup x = some c := fun x h => by
    obtain ⟨c, hc⟩ := cellsFrom_has (x := x) sc.names (s.heap.objs.size + 1) (closL X.env.cells sc.names []) (h.imp id fun z => closL_has _ _ (.inl z))
    exact Option.isSome_iff_exists.mp (lookup_some_of_mem hc)
  have kd : ∀ x kk, (relabel sc X.env).names.lookup x = some kk → ∃ k0, sc.names.lookup x = some k0 ∧ (kk = k0 ∨ (k0 = .free ∧ kk = .cell)) := fun x kk h => by
    have q := lookup_relabel X.env x sc.names
    have h' : (sc.names.map fun (n, k) => if (k == NameKind.free && X.env.scope.kind == .function && X.env.kindOf n == some .cell) then (n, NameKind.cell) else (n, k)).lookup x = some kk := h
    rw [q] at h'
    cases e : sc.names.lookup x with
    | none => rw [e] at h'; cases h'
    | some k0 =>
      rw [e] at h'
      simp only [Option.map_some, Option.some.injEq] at h'
      refine ⟨k0, rfl, ?_⟩
      split at h'
      · rename_i hc
        simp at hc
        exact .inr ⟨hc.1.1, h'.symm⟩
      · exact .inl h'.symm
  refine ⟨⟨I.ok.mod, S.kind, I.ok.glob, I.ok.blt, Nat.le_refl _, ?inj, ?has, ?cab, I.ok.hd, I.ok.frames, .inl rfl, ?exf, I.bs, Nat.le_trans I.ok.bsz I.sz, ?noex, ?exfs, I.stack, I.stkFree⟩,
    rfl, I.bare, Un.kept keeps, ⟨_, hns, ?loc⟩, ?cell, I.hok.fresh (Nat.le_refl _), ?freeC, ?pin, I.hok.kept keeps, ?len⟩
  case inj =>
    intro x y c h1 h2
    rcases cm x c (cl x c h1) with ⟨_, l1, _⟩ | ⟨m1, e1⟩
    · rcases cm y c (cl y c h2) with ⟨_, l2, _⟩ | ⟨m2, e2⟩
      · refine cellsFrom_inj (s.heap.objs.size + 1) sc.names (s.heap.objs.size + 1) (closL X.env.cells sc.names []) (fun x y c hx _ hc => ?_) (fun p hp => ?_) x y c (cl x c h1) (cl y c h2) l1
        · rcases closL_mem _ _ hx with z | ⟨z1, z2⟩
          · exact nomatch z
          · obtain ⟨c', e⟩ := frc x z1
            rw [e] at z2
            have z3 : c = c' := z2
            subst z3
            exact absurd (clt x c e) (Nat.not_lt.mpr (Nat.le_of_succ_le hc))
        · obtain ⟨x, c⟩ := p
          rcases closL_mem _ _ hp with z | ⟨z1, z2⟩
          · exact nomatch z
          · obtain ⟨c', e⟩ := frc x z1
            rw [e] at z2
            have z3 : c = c' := z2
            subst z3
            exact Nat.lt_succ_of_lt (clt x c e)
      · exact absurd (clt y c e2) (Nat.not_lt.mpr (Nat.le_of_succ_le l1))
    · rcases cm y c (cl y c h2) with ⟨_, l2, _⟩ | ⟨m2, e2⟩
      · exact absurd (clt x c e1) (Nat.not_lt.mpr (Nat.le_of_succ_le l2))
      · exact I.ok.inj x y c e1 e2
  case has =>
    intro x hx
    refine has x ?_
    rcases hx with hx | hx
    · obtain ⟨k0, e, h⟩ := kd x _ hx
      rcases h with h | ⟨h, _⟩
      · subst h; exact .inl (PySem.mem_of_lookup e)
      · subst h; exact .inr (PySem.mem_of_lookup e)
    · obtain ⟨k0, e, h⟩ := kd x _ hx
      rcases h with h | ⟨_, h⟩
      · subst h; exact .inr (PySem.mem_of_lookup e)
      · cases h
  case cab =>
    intro x c hfn h
    have hfn' : sc.names.lookup x = some NameKind.cell := of_decide_eq_true hfn
    rcases cm x c (cl x c h) with ⟨_, l, _⟩ | ⟨m, _⟩
    · exact Nat.le_of_succ_le l
    · rw [S.look m] at hfn'; cases hfn'
  case exf =>
    intro b hb
    refine ⟨Nat.ne_of_lt (hlt b hb), fun x c h => ?_⟩
    rcases cm x c (cl x c h) with ⟨_, l, _⟩ | ⟨_, e⟩
    · intro z
      subst z
      exact absurd (hlt c hb) (Nat.not_lt.mpr (Nat.le_of_succ_le l))
    · exact (hf b hb).2.2.2.2.1 x c e
  case noex =>
    intro b o e hb
    rcases (hf b hb).2.2.2.1 with z | z
    · exact I.ok.noex b o e z
    · exact absurd (Nat.lt_of_lt_of_le (Heap.lt_size e) (Nat.le_trans I.ok.bsz z)) (Nat.lt_irrefl _)
  case exfs => exact fun b hb z => (List.mem_cons.mp (I.stkSub b z)).elim (hf b hb).2.1 (hf b hb).2.2.1
  case loc =>
    intro i y v h1 h2 h3
    have hl := I.len
    by_cases hi : i < σ.length
    · rw [List.getElem?_append_left hi] at h2
      have q := List.all_eq_true.mp S.nm i (List.mem_range.mpr (by omega))
      have h1' : N'[i]? = some y := h1
      simp only [h1', Bool.or_eq_true, Bool.and_eq_true, decide_eq_true_eq] at q
      rcases q with q | ⟨q1, q2⟩
      · exfalso
        rcases h3 with z | z | z <;> (obtain ⟨k0, e, _⟩ := kd y _ z; rw [q] at e; cases e)
      · have hm := PySem.mem_of_lookup q1
        obtain ⟨m, hn, hloc⟩ := I.loc
        have kk := S.fr hm
        obtain ⟨u, r, l⟩ := hloc i y v q2 h2 (kk.elim (fun z => .inr (.inl z)) fun z => .inr (.inr z))
        refine ⟨u, r, .inr ⟨?_, ?_⟩⟩
        · rcases h3 with z | z | z
          · obtain ⟨k0, e, h⟩ := kd y _ z
            rw [q1] at e
            cases e
            rcases h with h | ⟨_, h⟩ <;> cases h
          · exact .inl z
          · exact .inr z
        · rcases l with ⟨l, _⟩ | ⟨_, c, ec, hc⟩
          · rcases kk with z | z <;> (rw [z] at l; cases l)
          · obtain ⟨c', e'⟩ := has y (.inr hm)
            refine ⟨c', e', ?_⟩
            rcases cm y c' (cl y c' e') with ⟨m', _⟩ | ⟨_, e2⟩
            · have := S.look m'
              rw [q1] at this
              cases this
            · rw [ec] at e2
              cases e2
              exact hc.keeps keeps
    · rw [List.getElem?_append_right (by omega), List.getElem?_replicate] at h2
      split at h2 <;> cases h2
  case cell =>
    intro x c h
    rcases cm x c (cl x c h) with ⟨_, _, q⟩ | ⟨_, e⟩
    · exact ⟨_, q⟩
    · obtain ⟨v, q⟩ := I.cell x c e
      exact ⟨v, q.keeps keeps⟩
  case freeC =>
    intro x c h
    rcases cm x c (cl x c h) with ⟨_, l, _⟩ | ⟨_, e⟩
    · exact I.hok.fresh (Nat.le_of_succ_le l)
    · exact I.freeC x c e
  case pin =>
    intro p hp
    have hp' : p ∈ X.pn ++ pins := by
      rcases List.mem_append.mp hp with z | z
      · exact z
      · exact nomatch z
    obtain ⟨e, n, ne, nf, d⟩ := I.pin p hp'
    exact ⟨keeps _ _ e, n, Nat.ne_of_lt (Heap.lt_size e), fun z => (List.mem_cons.mp (I.stkSub p.1 z)).elim ne nf, d⟩
  case len =>
    show _ = N'.length
    rw [List.length_append, List.length_replicate, S.len, I.len]

/-- behind the block -/
theorem comp_exit {σ' : St} {H' : Hp} {s' : Shared} (I : Inv X pins σ H s) (hf : ∀ b ∈ fp, FpOk X pins H b) (J : Inv (cxComp X N' sc s H fp pins E) [] σ' H' s') : Inv X pins σ H' s' :=
  I.call' J.os J.base J.hok J.bare fun b hb => ⟨(hf b hb).2.2.2.1, (hf b hb).2.1, (hf b hb).2.2.2.2.1, (hf b hb).2.2.2.2.2⟩
/-- the block's names are let go -/
theorem comp_gone {H' : Hp} {s' : Shared} {h' : Heap} (I : Inv X pins σ H s) (J : Inv X pins σ H' s') (hn : H' s.heap.objs.size = none) (hb : Heap.SameBut s.heap.objs.size s'.heap h') : Inv X pins σ H' { s' with heap := h' } := by
  refine J.turned (t' := s'.toks) (it := s.heap.objs.size) (fun b o hne e => (hb.2 b hne).trans e) hn (Nat.ne_of_gt I.lt) (.inr I.sz) (fun x c e => ?_) fun p hp => ?_
  · obtain ⟨v, q⟩ := I.cell x c e
    exact Nat.ne_of_lt q.lt
  · exact Nat.ne_of_lt (Heap.lt_size (I.pin p hp).1)
end

/-! ### the loop -/
theorem compLoop_any {prog : Program} {w : World} {A : Around} {R : Result → Shared → Prop} {s : Shared} {elt target iter : Expr} {ifs : List Expr} {scope : Scope} {pos : Pos} {it acc : Value} {env : Env} (I : Nat → Shared → Prop)
    (turn : ∀ n s, I n s → wpAny (model prog w) A (pyNext it) (fun r s₁ => match r with
      | none => R (.ok .next) s₁
      | some v => wpAny (model prog w) A (letOwnedTupleGo target it v) (fun _ s₁' => wpAny (model prog w) A (assign target env v) (fun _ s₂ =>
          wpAny (model prog w) A (forIn ifs true fun c r => if r = true then do let ok ← isTrue c env (eval c env); pure (ForInStep.yield ok) else pure (ForInStep.yield r)) (fun ok s₃ =>
            if ok = true then wpAny (model prog w) A (eval elt env) (fun x s₄ =>
              wpAny (model prog w) A (call (.builtin "list.append") [acc, x]) (fun _ s₅ => ∃ m, m < n ∧ I m s₅) (notedBy (model prog w) A env fun e s' => R (.error e) s') s₄) (notedBy (model prog w) A env fun e s' => R (.error e) s') s₃
            else ∃ m, m < n ∧ I m s₃) (notedBy (model prog w) A env fun e s' => R (.error e) s') s₂) (notedBy (model prog w) A env fun e s' => R (.error e) s') s₁') (notedBy (model prog w) A env fun e s' => R (.error e) s') s₁) (notedBy (model prog w) A env fun e s' => R (.error e) s') s)
    (n : Nat) (h : I n s) :
    codeAny (model prog w) A (.compLoop (.ListComp elt [⟨target, iter, ifs, 0⟩] scope pos) 0 it acc env) R s := by
  refine codeAny_loop rfl I (fun n s hI => ?_) n h
  show wpAny _ A ((compTurn (.ListComp elt [⟨target, iter, ifs, 0⟩] scope pos) 0 it acc env).onRaise (fun x => do noteFrame x env; theTreesLotGoes x)) _ _ s
  refine wpAny_noted ?_
  rw [compTurn_list]
  refine wpAny_bind (wpAny_standAt (wpAny_bind (wpAny_mono (turn n s hI) (fun r s₁ h₁ => ?_) fun _ _ h' => h')))
  cases r with
  | none => exact wpAny_pure h₁
  | some v =>
    refine wpAny_bind (wpAny_mono h₁ (fun _ s₁' h₁' => ?_) fun _ _ h' => h')
    refine wpAny_bind (wpAny_mono h₁' (fun _ s₂ h₂ => wpAny_bind (wpAny_mono h₂ (fun ok s₃ h₃ => ?_) fun _ _ h' => h')) fun _ _ h' => h')
    cases ok with
    | false => exact wpAny_pure ⟨rfl, h₃⟩
    | true =>
      exact wpAny_bind (wpAny_bind (wpAny_mono h₃ (fun x s₄ h₄ => wpAny_bind (wpAny_mono h₄ (fun _ s₅ h₅ => wpAny_pure (wpAny_pure ⟨rfl, h₅⟩)) fun _ _ h' => h')) fun _ _ h' => h'))

/-- the tests of a clause -/
def PIfs (X : Cx) (ifs : List Expr) (t : TT) : Prop :=
  ∀ (pins : List (Addr × Obj)) (s : Shared) (σ : St) (H : Hp) (Q : Bool → Hp → Prop), Inv X pins σ H s → t σ H Q →
    wpAny (model X.prog X.w) X.A (forIn ifs true fun c r => if r = true then do let ok ← isTrue c X.env (eval c X.env); pure (ForInStep.yield ok) else pure (ForInStep.yield r)) (TP X pins σ Q) X.xe s
def tYes : TT := fun _ H Q => Q true H
theorem pifs_nil {X : Cx} : PIfs X [] tYes := fun _ _ _ H _ I h => wpAny_tests_nil ⟨H, I, h⟩

/-- the reading of a comprehension: W is the invariant by the turn and a measure, the result grows at D -/
def tComp (wi : TI) (g : TG) (tc : TT) (te : TE) (k : Nat) : TE := fun σ H Q => wi σ H fun J H1 => ∀ D, H1 D = none →
  ∃ W : Nat → Nat → St → Hp → Prop, (∃ m, W 0 m (σ ++ List.replicate k none) (upd H1 D (.lst []))) ∧ ∀ i m σ' H', W i m σ' H' →
    (J.stop i H' ∧ Q (.ref D) H') ∨ (J.go i H' ∧ ∃ N : St → Hp → Prop, (∀ σ'' H'', N σ'' H'' → ∃ m', m' < m ∧ W (i + 1) m' σ'' H'') ∧
      ∀ x H2, J.yld i H' x H2 → g x σ' H2 fun σ2 H3 => tc σ2 H3 fun b H4 => if b = true then te σ2 H4 fun y H5 => ∃ ys, H5 D = some (.lst ys) ∧ ys.length < sizeLine ∧ N σ2 (upd H5 D (.lst (ys ++ [y]))) else N σ2 H4)

/-- the parts of a comprehension, in its block -/
structure PComp (X : Cx) (N' : List Str) (sc : Scope) (tg : Expr) (ifs : List Expr) (elt : Expr) (g : TG) (tc : TT) (te : TE) : Prop where
  pg : ∀ s H fp pins E, PG (cxComp X N' sc s H fp pins E) tg g
  pt : ∀ s H fp pins E, PIfs (cxComp X N' sc s H fp pins E) ifs tc
  pe : ∀ s H fp pins E, PE (cxComp X N' sc s H fp pins E) elt te

section
variable {X : Cx} {N' : List Str} {k : Nat} {sc : Scope} {tg iter elt : Expr} {ifs : List Expr} {pos : Pos} {g : TG} {tc : TT} {te : TE} {wi : TI}

theorem comp_block {pins : List (Addr × Obj)} {σ : St} {H : Hp} {s : Shared} {J : It} {fp : List Addr} {it : Addr} {tn : Nat → Heap → Prop} {Q : VK} {E : Value → Shared → Prop} {RR : Value → Addr → Result → Shared → Prop}
    (hc : X.calm = true) (S : CompScope X.N X.env.scope.names N' k sc) {PC : Shared → Hp → (Value → Shared → Prop) → Prop} (P : ∀ s H E, PC s H E → PG (cxComp X N' sc s H fp pins E) tg g ∧ PIfs (cxComp X N' sc s H fp pins E) ifs tc ∧ PE (cxComp X N' sc s H fp pins E) elt te)
    (hP : ∀ D s3 H3, Inv X pins σ H3 s3 → (∀ b ∈ fp, FpOk X pins H3 b) → PC s3 H3 (notedBy (model X.prog X.w) X.A (compEnvC sc (cellsFrom (s3.heap.objs.size + 1) sc.names (closL X.env.cells sc.names [])) s3.heap.objs.size X.env) fun e s' => RR (.ref D) s3.heap.objs.size (.error e) s')) (I : Inv X pins σ H s) (T : Turn X.prog X.w X.K tg J fp it tn) (st : tn 0 s.heap) (hf : ∀ b ∈ fp, FpOk X pins H b)
    (hW : ∀ D, H D = none → ∃ W : Nat → Nat → St → Hp → Prop, (∃ m, W 0 m (σ ++ List.replicate k none) (upd H D (.lst []))) ∧ ∀ i m σ' H', W i m σ' H' →
      (J.stop i H' ∧ Q (.ref D) H') ∨ (J.go i H' ∧ ∃ N : St → Hp → Prop, (∀ σ'' H'', N σ'' H'' → ∃ m', m' < m ∧ W (i + 1) m' σ'' H'') ∧
        ∀ x H2, J.yld i H' x H2 → g x σ' H2 fun σ2 H3 => tc σ2 H3 fun b H4 => if b = true then te σ2 H4 fun y H5 => ∃ ys, H5 D = some (.lst ys) ∧ ys.length < sizeLine ∧ N σ2 (upd H5 D (.lst (ys ++ [y]))) else N σ2 H4))
    (hR : ∀ D s3 H3 σ' H' s' E', Inv X pins σ H3 s3 → (∀ b ∈ fp, FpOk X pins H3 b) → Inv (cxComp X N' sc s3 H3 fp pins E') [] σ' H' s' → Q (.ref D) H' → RR (.ref D) s3.heap.objs.size (.ok .next) s') :
    wpAny (model X.prog X.w) X.A (newList []) (fun acc s₃ => wpAny (model X.prog X.w) X.A (newFunctionEnv sc X.env.globals (closL X.env.cells sc.names []) [] X.env.qual none .none (some X.env)) (fun cenv s₄ =>
      codeAny (model X.prog X.w) X.A (.compStart (.ListComp elt [⟨tg, iter, ifs, 0⟩] sc pos) 0 (.ref it) acc { cenv with scope := relabel sc X.env }) (RR acc cenv.locals) s₄) E s₃) E s := by
  obtain ⟨W, ⟨m0, w0⟩, step⟩ := hW s.heap.objs.size (I.hok.fresh (Nat.le_refl _))
  have I3 : Inv X pins σ (upd H s.heap.objs.size (.lst [])) { s with heap := s.heap.push { cls := .type "list", data := .seq ([] : List Value).toArray }, toks := s.toks } := I.lnew (t' := s.toks) .nil (Nat.zero_le _)
  have lt0 : ∀ b ∈ fp, b < s.heap.objs.size := fun b hb => by
    obtain ⟨o, e, _⟩ := T.obj 0 _ st b hb
    exact Heap.lt_size e
  have hf3 : ∀ b ∈ fp, FpOk X pins (upd H s.heap.objs.size (.lst [])) b := fun b hb => ⟨by rw [upd_ne (Nat.ne_of_lt (lt0 b hb))]; exact (hf b hb).1, (hf b hb).2⟩
  have lt3 : ∀ b ∈ fp, b < (s.heap.push { cls := .type "list", data := .seq ([] : List Value).toArray }).objs.size := fun b hb => by
    rw [Heap.size_push]
    exact Nat.lt_succ_of_lt (lt0 b hb)
  refine wpAny_newObj_type (wpAny_newFunctionEnv_comp ?_)
  generalize hs3 : ({ s with heap := s.heap.push { cls := .type "list", data := .seq ([] : List Value).toArray }, toks := s.toks } : Shared) = s3 at I3
  have hsh : s3.heap = s.heap.push { cls := .type "list", data := .seq ([] : List Value).toArray } := by rw [← hs3]
  rw [← hsh] at lt3
  have st3 : tn 0 s3.heap := T.keep _ _ _ st fun b _ o e => by rw [hsh]; exact Heap.get?_push_of_some _ e
  show codeAny _ _ (.compStart _ 0 (.ref it) (.ref s.heap.objs.size) (compEnvC sc (cellsFrom (s3.heap.objs.size + 1) sc.names (closL X.env.cells sc.names [])) s3.heap.objs.size X.env)) (RR (.ref s.heap.objs.size) s3.heap.objs.size)
    { s3 with heap := pushCells (s3.heap.push { cls := .type "dict", data := .dict #[] }) sc.names }
  generalize hD : s.heap.objs.size = D at *
  generalize hEn : (notedBy (model X.prog X.w) X.A (compEnvC sc (cellsFrom (s3.heap.objs.size + 1) sc.names (closL X.env.cells sc.names [])) s3.heap.objs.size X.env) fun e s' => RR (.ref D) s3.heap.objs.size (.error e) s') = En
  have I4 : Inv (cxComp X N' sc s3 (upd H D (.lst [])) fp pins En) [] (σ ++ List.replicate k none) (upd H D (.lst [])) { s3 with heap := pushCells (s3.heap.push { cls := .type "dict", data := .dict #[] }) sc.names } := comp_inv S I3 hf3 lt3
  have st4 : tn 0 (pushCells (s3.heap.push { cls := .type "dict", data := .dict #[] }) sc.names) := T.keep _ _ _ st3 fun b _ o e => pushCells_keeps _ _ _ _ (Heap.get?_push_of_some _ e)
  have stat : ∀ {H' : Hp}, (∀ b ∈ fp, H' b = none) → ∀ b ∈ fp, FpOk (cxComp X N' sc s3 (upd H D (.lst [])) fp pins En) [] H' b := fun hn b hb =>
    ⟨hn b hb, (I4.ok.exf b hb).1, I4.ok.exfs b hb, .inl hb, (I4.ok.exf b hb).2, fun p hp => (hf3 b hb).2.2.2.2.2 p (by
      rcases List.mem_append.mp hp with z | z
      · exact z
      · exact nomatch z)⟩
  obtain ⟨Pg, Pt, Pe⟩ := P s3 (upd H D (.lst [])) En (by rw [← hEn]; exact hP D s3 _ I3 hf3)
  have loop : codeAny (model X.prog X.w) X.A (.compLoop (.ListComp elt [⟨tg, iter, ifs, 0⟩] sc pos) 0 (.ref it) (.ref D) (cxComp X N' sc s3 (upd H D (.lst [])) fp pins En).env) (RR (.ref D) s3.heap.objs.size)
      { s3 with heap := pushCells (s3.heap.push { cls := .type "dict", data := .dict #[] }) sc.names } := by
    refine compLoop_any (fun n s' => ∃ i σ' H', Inv (cxComp X N' sc s3 (upd H D (.lst [])) fp pins En) [] σ' H' s' ∧ tn i s'.heap ∧ (∀ b ∈ fp, H' b = none) ∧ W i n σ' H') ?_ m0 ⟨0, _, _, I4, st4, fun b hb => (hf3 b hb).1, w0⟩
    have eEn : (notedBy (model X.prog X.w) X.A (cxComp X N' sc s3 (upd H D (.lst [])) fp pins En).env fun e s' => RR (.ref D) s3.heap.objs.size (.error e) s') = En := hEn
    rw [eEn]
    rintro n s5 ⟨i, σ5, H5, I5, st5, fr5, w5⟩
    rcases step i n σ5 H5 w5 with ⟨stop, qn⟩ | ⟨go, N, hN, turn⟩
    · refine thn (T.done (cxComp X N' sc s3 (upd H D (.lst [])) fp pins En) rfl rfl rfl hc i [] s5 σ5 H5 En I5 (stat fr5) st5 stop) fun r s6 ⟨hr, I6⟩ => ?_
      subst hr
      exact hR D s3 _ σ5 H5 s6 En I3 hf3 I6 qn
    · refine thn (T.item (cxComp X N' sc s3 (upd H D (.lst [])) fp pins En) rfl rfl rfl hc i [] s5 σ5 H5 En I5 (stat fr5) st5 go) fun r s6 ⟨u, hr, h6⟩ => ?_
      subst hr
      refine thn h6 fun _ s7 ⟨x, H7, I7, r7, y7, st7, fr7⟩ => ?_
      have I7' := I7.pinned (stat fr7) (T.obj _ _ st7)
      have back : ∀ {σ9 : St} {H9 : Hp} {s9 : Shared}, Inv (cxComp X N' sc s3 (upd H D (.lst [])) fp pins En) ([] ++ pinsAt fp s7.heap) σ9 H9 s9 → N σ9 H9 →
          ∃ m, m < n ∧ ∃ i σ' H', Inv (cxComp X N' sc s3 (upd H D (.lst [])) fp pins En) [] σ' H' s9 ∧ tn i s9.heap ∧ (∀ b ∈ fp, H' b = none) ∧ W i m σ' H' := fun {σ9 H9 s9} I9 n9 => by
        obtain ⟨m', hm, w9⟩ := hN σ9 H9 n9
        refine ⟨m', hm, i + 1, σ9, H9, I9.unpinned, T.keep _ _ _ st7 fun b hb o e => (I9.pin (b, o) (List.mem_append_right _ (List.mem_append_right _ (mem_pinsAt hb e)))).1, fun b hb => ?_, w9⟩
        obtain ⟨o, e, d⟩ := T.obj _ _ st7 b hb
        exact (I9.pin (b, o) (List.mem_append_right _ (List.mem_append_right _ (mem_pinsAt hb e)))).2.1
      refine thn (Pg _ s7 σ5 H7 x u _ I7' r7 (turn x H7 y7)) fun _ s8 ⟨σ8, H8, I8, q8⟩ => ?_
      refine thn (Pt _ s8 σ8 H8 _ I8 q8) fun ok s9 ⟨H9, I9, q9⟩ => ?_
      cases ok with
      | false =>
        rw [if_neg Bool.false_ne_true] at q9
        rw [if_neg Bool.false_ne_true]
        exact back I9 q9
      | true =>
        rw [if_pos rfl] at q9
        rw [if_pos rfl]
        refine thn (Pe _ s9 σ8 H9 _ I9 q9) fun y s10 ⟨yv, H10, I10, r10, ys, hys, hl, q10⟩ => ?_
        refine thn (mt_append _ s10 σ8 H10 (.ref D) [yv] (.ref D) [y] (fun _ H' => N σ8 H') I10 rfl (.cons r10 .nil) ⟨D, ys, yv, rfl, rfl, hys, hl, q10⟩) fun _ s11 ⟨_, H11, I11, _, q11⟩ => ?_
        exact back I11 q11
  exact codeAny_compStart_list loop (T.self X.A 0 _ _ _ st4 loop)

theorem CompScope.names' {N : List Str} {out : List (Str × NameKind)} (S : CompScope N out N' k sc) : ∀ x ∈ sc.names, x.2 = .local → sc.names.lookup x.1 = some .local := fun x hx e => by
  obtain ⟨n, kd⟩ := x
  have e' : kd = .local := e
  subst e'
  exact S.look hx

theorem pe_comp (hc : X.calm = true) (S : CompScope X.N X.env.scope.names N' k sc) (hi : PI X tg iter wi) (P : PComp X N' sc tg ifs elt g tc te) (hs : ∀ x, foldedSetIterable iter X.env x = pure x := by intro _; rfl) :
    PE X (.ListComp elt [⟨tg, iter, ifs, 0⟩] sc pos) (tComp wi g tc te k) := by
  intro pins s σ H Q I h
  rw [eval_ListComp]
  refine wpAny_comprehension_free (use := none) rfl hs (closureFor_closL fun n hn => I.ok.has n (S.fr hn)) S.kind S.names' (thn (hi pins s σ H _ I h) fun v s1 h1 => thn h1 fun itv s2 h2 => ?_)
  obtain ⟨it, fp, tn, J, H2, e, I2, T, st2, f2, hW⟩ := h2
  subst e
  refine comp_block (Q := Q) (RR := fun acc C => compPost (model X.prog X.w) X.A X.xe none (EP X pins σ Q) acc C) (PC := fun _ _ _ => True) hc S (fun s H E _ => ⟨P.pg s H _ _ E, P.pt s H _ _ E, P.pe s H _ _ E⟩) (fun _ _ _ _ _ => trivial) I2 T st2 f2 hW ?_
  intro D s3 H3 σ' H' s' E' I3 f3 J' q
  obtain ⟨m, hn, _⟩ := J'.loc
  exact ⟨m, hn, fun h' hb => ⟨.ref D, H', comp_gone I3 (comp_exit I3 f3 J') J'.free hb, rfl, q⟩⟩

end
end L2

/-! ### E2: values as trees, without the heap -/
namespace L2
open PySem PySem.Spec PyProof.Rows

inductive D where
  | non | bl (b : Bool) | int (i : Int) | str (x : Str) | lst (xs : List D) | tup (xs : List D) | scr (ns : List Int) | dct (ks : List Key) (xs : List D) | exc (x : Str) | obj (x : Str) (a : Addr) (ks : List Str) (ds : List D) | cel (a : Addr) (ds : List D)
/-- of the program's own class at C isinstance can be asked, and it is none of Python's plain ones -/
def xclsB (K : PySem.W.Frag) (C : Addr) : Bool := PySem.W.findIn K (.ref C) "__getattribute__" == some (some (.builtin "BaseException.__getattribute__")) && PySem.W.findIn K (.ref C) "__getattr__" == some none && PySem.W.mroIn K C (.type "BaseException") == some true && (PySem.W.clsIn K C).isSome && PySem.W.findIn K (.ref C) "__class__" == some (some (.builtin "object.__class__")) &&
  PySem.W.specialIn K (.builtin "object.__class__") "__get__" == some (some (.builtin "getset_descriptor.__get__")) && PySem.W.takesIn K (.builtin "object.__class__") == some true && PySem.W.mroIn K C (.type "object") == some true &&
  ["bool", "int", "str", "list", "tuple", "dict"].all fun T => PySem.W.kitOne K (.ref C) (.type T) == some false
/-- of the program's own class at C: its instances' attributes ks can be read and set -/
def iclsB (K : PySem.W.Frag) (C : Addr) (ks : List Str) : Bool := PySem.W.plainGet K C Str.empty && PySem.W.hasDictIn K C && PySem.W.plainOver K C && PySem.W.findIn K (.ref C) "__setattr__" == some (some (.builtin "object.__setattr__")) &&
  PySem.W.findIn K (.ref C) "__class__" == some (some (.builtin "object.__class__")) && PySem.W.specialIn K (.builtin "object.__class__") "__get__" == some (some (.builtin "getset_descriptor.__get__")) && PySem.W.takesIn K (.builtin "object.__class__") == some true && PySem.W.mroIn K C (.type "object") == some true &&
  (["bool", "int", "str", "list", "tuple", "dict"].all fun T => PySem.W.kitOne K (.ref C) (.type T) == some false) && ks.all fun f => PySem.W.findIn K (.ref C) f == some none
/-- an exception of the class at C -/
def isX (a C : Addr) (h : Heap) : Prop := ∃ o, h.get? a = some o ∧ o.cls = .ref C ∧ o.dict = none ∧ PySem.W.notCls o = true

/-- a list that nobody changes: the script -/
def SqF (K : PySem.W.Frag) (H : Hp) (a : Addr) (xs : List V) : Prop :=
  (∃ o, H a = some (.frz o (.lst xs))) ∨ ∃ (o : Obj) (its : Array Value) (n : Nat), K.lookup a = some o ∧ o.cls = .type "list" ∧ o.dict = none ∧ o.data = .seq its n ∧ its.size ≤ sizeLine ∧ Vals xs its.toList
theorem SqF.sq {K : PySem.W.Frag} {H : Hp} {a : Addr} {xs : List V} (h : SqF K H a xs) : SqL K H a xs := h.elim (fun z => .inl (.inr z)) .inr
/- v stands for d at H, through no list or dict of B -/
mutual
def Rep (K : PySem.W.Frag) (H : Hp) (B : Addr → Prop) : D → V → Prop
  | .non, v => v = .non
  | .bl b, v => v = .bl b
  | .int i, v => v = .int i
  | .str x, v => v = .str x
  | .lst ds, v => ∃ a xs, v = .ref a ∧ ¬ B a ∧ H a = some (.lst xs) ∧ Reps K H B ds xs
  | .tup ds, v => ∃ a xs, v = .ref a ∧ SqT K H a xs ∧ Reps K H B ds xs
  | .scr ns, v => ∃ a, v = .ref a ∧ SqF K H a (ns.map V.int)
  | .dct ks ds, v => ∃ a kvs, v = .ref a ∧ ¬ B a ∧ H a = some (.dK kvs) ∧ kvs.map (·.1) = ks ∧ Reps K H B ds (kvs.map (·.2))
  | .exc x, v => ∃ a C, v = .ref a ∧ ¬ B a ∧ H a = some (.ext (isX a C)) ∧ PySem.W.nsIn K mainGlobals x = some (some (.ref C)) ∧ xclsB K C = true
  | .obj x a ks ds, v => ∃ C dx fs, ¬ B a ∧ H a = some (.ins C dx fs) ∧ (v = .ref a ∧ PySem.W.nsIn K mainGlobals x = some (some (.ref C)) ∧ iclsB K C ks = true ∧ fs.map (·.1) = ks) ∧ Reps K H B ds (fs.map (·.2))
  | .cel a ds, v => ∃ xs, ¬ B a ∧ H a = some (.lst xs) ∧ v = .ref a ∧ Reps K H B ds xs
def Reps (K : PySem.W.Frag) (H : Hp) (B : Addr → Prop) : List D → List V → Prop
  | [], xs => xs = []
  | d :: ds, xs => ∃ x r, xs = x :: r ∧ Rep K H B d x ∧ Reps K H B ds r
end
/- v is the tree d at H, its lists and dicts those of A, each held there -/
mutual
def Tree (K : PySem.W.Frag) (H : Hp) : D → V → List Addr → Prop
  | .non, v, A => v = .non ∧ A = []
  | .bl b, v, A => v = .bl b ∧ A = []
  | .int i, v, A => v = .int i ∧ A = []
  | .str x, v, A => v = .str x ∧ A = []
  | .lst ds, v, A => ∃ a xs B, v = .ref a ∧ H a = some (.lst xs) ∧ Trees K H ds xs B ∧ A = a :: B
  | .tup ds, v, A => ∃ a xs, v = .ref a ∧ SqT K H a xs ∧ Trees K H ds xs A
  | .scr ns, v, A => (∃ a, v = .ref a ∧ SqF K H a (ns.map V.int)) ∧ A = []
  | .dct ks ds, v, A => ∃ a kvs B, v = .ref a ∧ H a = some (.dK kvs) ∧ kvs.map (·.1) = ks ∧ Trees K H ds (kvs.map (·.2)) B ∧ A = a :: B
  | .exc x, v, A => ∃ a C, v = .ref a ∧ H a = some (.ext (isX a C)) ∧ PySem.W.nsIn K mainGlobals x = some (some (.ref C)) ∧ xclsB K C = true ∧ A = [a]
  | .obj x a ks ds, v, A => ∃ C dx fs A1, H a = some (.ins C dx fs) ∧ (v = .ref a ∧ PySem.W.nsIn K mainGlobals x = some (some (.ref C)) ∧ iclsB K C ks = true ∧ fs.map (·.1) = ks) ∧ Trees K H ds (fs.map (·.2)) A1 ∧ A = a :: A1
  | .cel a ds, v, A => ∃ xs B, H a = some (.lst xs) ∧ v = .ref a ∧ Trees K H ds xs B ∧ A = a :: B
def Trees (K : PySem.W.Frag) (H : Hp) : List D → List V → List Addr → Prop
  | [], xs, A => xs = [] ∧ A = []
  | d :: ds, xs, A => ∃ x r B C, xs = x :: r ∧ Tree K H d x B ∧ Trees K H ds r C ∧ A = B ++ C
end
/- nothing in it can change -/
mutual
def D.imm : D → Bool
  | .non => true
  | .bl _ => true
  | .int _ => true
  | .str _ => true
  | .lst _ => false
  | .tup ds => imms ds
  | .scr _ => true
  | .dct _ _ => false
  | .exc _ => false
  | .obj _ _ _ _ => false
  | .cel _ _ => false
def imms : List D → Bool
  | [] => true
  | d :: ds => d.imm && imms ds
end

theorem Same.tup {K : PySem.W.Frag} {H H' : Hp} {a : Addr} {xs : List V} (e : Same H H') (h : SqT K H a xs) : SqT K H' a xs := by
  rcases h with (h | ⟨o, h⟩) | h
  · exact .inl (.inl (e _ _ h))
  · exact .inl (.inr ⟨o, e _ _ h⟩)
  · exact .inr h

section
variable {K : PySem.W.Frag} {H H' : Hp} {B B' : Addr → Prop}

structure KeepI (K : PySem.W.Frag) (H H' : Hp) : Prop where
  st : ∀ a xs, SqT K H a xs → SqT K H' a xs
  sf : ∀ a xs, SqF K H a xs → SqF K H' a xs
/-- what is kept: what is read of lists, dicts (outside of B) and tuples -/
structure Keep (K : PySem.W.Frag) (B : Addr → Prop) (H H' : Hp) : Prop where
  sl : ∀ a xs, ¬ B a → H a = some (.lst xs) → H' a = some (.lst xs)
  st : ∀ a xs, SqT K H a xs → SqT K H' a xs
  sf : ∀ a xs, SqF K H a xs → SqF K H' a xs
  sd : ∀ a kvs, ¬ B a → H a = some (.dK kvs) → H' a = some (.dK kvs)
  sx : ∀ a φ, ¬ B a → H a = some (.ext φ) → H' a = some (.ext φ)
  si : ∀ a C dx fs, ¬ B a → H a = some (.ins C dx fs) → H' a = some (.ins C dx fs)

theorem Keep.i (k : Keep K B H H') : KeepI K H H' := ⟨k.st, k.sf⟩
mutual
theorem Rep.keep (k : Keep K B H H') : ∀ (d : D) {v : V}, Rep K H B d v → Rep K H' B d v
  | .non, _, h => h
  | .bl _, _, h => h
  | .int _, _, h => h
  | .str _, _, h => h
  | .lst ds, _, h => by
    unfold Rep at h ⊢
    obtain ⟨a, xs, e, n, s, r⟩ := h
    exact ⟨a, xs, e, n, k.sl a xs n s, Reps.keep k ds r⟩
  | .tup ds, _, h => by
    unfold Rep at h ⊢
    obtain ⟨a, xs, e, s, r⟩ := h
    exact ⟨a, xs, e, k.st a xs s, Reps.keep k ds r⟩
  | .scr ns, _, h => by
    unfold Rep at h ⊢
    obtain ⟨a, e, s⟩ := h
    exact ⟨a, e, k.sf a _ s⟩
  | .dct ks ds, _, h => by
    unfold Rep at h ⊢
    obtain ⟨a, kvs, e, n, s, q, r⟩ := h
    exact ⟨a, kvs, e, n, k.sd a kvs n s, q, Reps.keep k ds r⟩
  | .exc _, _, h => by
    unfold Rep at h ⊢
    obtain ⟨a, C, e, n, s, r⟩ := h
    exact ⟨a, C, e, n, k.sx a _ n s, r⟩
  | .obj x a ks ds, _, h => by
    unfold Rep at h ⊢
    obtain ⟨C, dx, fs, n, s, q, r1⟩ := h
    exact ⟨C, dx, fs, n, k.si a C dx fs n s, q, Reps.keep k ds r1⟩
  | .cel a ds, _, h => by
    unfold Rep at h ⊢
    obtain ⟨xs, n, s, e, r⟩ := h
    exact ⟨xs, n, k.sl a xs n s, e, Reps.keep k ds r⟩
theorem Reps.keep (k : Keep K B H H') : ∀ (ds : List D) {xs : List V}, Reps K H B ds xs → Reps K H' B ds xs
  | [], _, h => h
  | d :: ds, _, h => by
    unfold Reps at h ⊢
    obtain ⟨x, r, e, h1, h2⟩ := h
    exact ⟨x, r, e, Rep.keep k d h1, Reps.keep k ds h2⟩
end
mutual
theorem Rep.anti (hb : ∀ a, B' a → B a) : ∀ (d : D) {v : V}, Rep K H B d v → Rep K H B' d v
  | .non, _, h => h
  | .bl _, _, h => h
  | .int _, _, h => h
  | .str _, _, h => h
  | .lst ds, _, h => by
    unfold Rep at h ⊢
    obtain ⟨a, xs, e, n, s, r⟩ := h
    exact ⟨a, xs, e, fun z => n (hb a z), s, Reps.anti hb ds r⟩
  | .tup ds, _, h => by
    unfold Rep at h ⊢
    obtain ⟨a, xs, e, s, r⟩ := h
    exact ⟨a, xs, e, s, Reps.anti hb ds r⟩
  | .scr _, _, h => h
  | .dct ks ds, _, h => by
    unfold Rep at h ⊢
    obtain ⟨a, kvs, e, n, s, q, r⟩ := h
    exact ⟨a, kvs, e, fun z => n (hb a z), s, q, Reps.anti hb ds r⟩
  | .exc _, _, h => by
    unfold Rep at h ⊢
    obtain ⟨a, C, e, n, r⟩ := h
    exact ⟨a, C, e, fun z => n (hb a z), r⟩
  | .obj x a ks ds, _, h => by
    unfold Rep at h ⊢
    obtain ⟨C, dx, fs, n, s, q, r1⟩ := h
    exact ⟨C, dx, fs, fun z => n (hb a z), s, q, Reps.anti hb ds r1⟩
  | .cel a ds, _, h => by
    unfold Rep at h ⊢
    obtain ⟨xs, n, s, e, r⟩ := h
    exact ⟨xs, fun z => n (hb a z), s, e, Reps.anti hb ds r⟩
theorem Reps.anti (hb : ∀ a, B' a → B a) : ∀ (ds : List D) {xs : List V}, Reps K H B ds xs → Reps K H B' ds xs
  | [], _, h => h
  | d :: ds, _, h => by
    unfold Reps at h ⊢
    obtain ⟨x, r, e, h1, h2⟩ := h
    exact ⟨x, r, e, Rep.anti hb d h1, Reps.anti hb ds h2⟩
end
/- what cannot change stands for itself through whatever -/
mutual
theorem Rep.imm : ∀ (d : D) {v : V}, d.imm = true → Rep K H B d v → Rep K H B' d v
  | .non, _, _, h => h
  | .bl _, _, _, h => h
  | .int _, _, _, h => h
  | .str _, _, _, h => h
  | .lst _, _, i, _ => by unfold D.imm at i; cases i
  | .dct _ _, _, i, _ => by unfold D.imm at i; cases i
  | .exc _, _, i, _ => by unfold D.imm at i; cases i
  | .obj _ _ _ _, _, i, _ => by unfold D.imm at i; cases i
  | .cel _ _, _, i, _ => by unfold D.imm at i; cases i
  | .tup ds, _, i, h => by
    unfold D.imm at i
    unfold Rep at h ⊢
    obtain ⟨a, xs, e, s, r⟩ := h
    exact ⟨a, xs, e, s, Reps.imm ds i r⟩
  | .scr _, _, _, h => h
theorem Reps.imm : ∀ (ds : List D) {xs : List V}, imms ds = true → Reps K H B ds xs → Reps K H B' ds xs
  | [], _, _, h => h
  | d :: ds, _, i, h => by
    unfold imms at i
    rw [Bool.and_eq_true] at i
    unfold Reps at h ⊢
    obtain ⟨x, r, e, h1, h2⟩ := h
    exact ⟨x, r, e, Rep.imm d i.1 h1, Reps.imm ds i.2 h2⟩
end
/- and it is a tree without lists -/
mutual
theorem Rep.immTree : ∀ (d : D) {v : V}, d.imm = true → Rep K H B d v → Tree K H d v []
  | .non, _, _, h => ⟨h, rfl⟩
  | .bl _, _, _, h => ⟨h, rfl⟩
  | .int _, _, _, h => ⟨h, rfl⟩
  | .str _, _, _, h => ⟨h, rfl⟩
  | .lst _, _, i, _ => by unfold D.imm at i; cases i
  | .dct _ _, _, i, _ => by unfold D.imm at i; cases i
  | .exc _, _, i, _ => by unfold D.imm at i; cases i
  | .obj _ _ _ _, _, i, _ => by unfold D.imm at i; cases i
  | .cel _ _, _, i, _ => by unfold D.imm at i; cases i
  | .tup ds, _, i, h => by
    unfold D.imm at i
    unfold Rep at h
    unfold Tree
    obtain ⟨a, xs, e, s, r⟩ := h
    exact ⟨a, xs, e, s, Reps.immTree ds i r⟩
  | .scr _, _, _, h => ⟨h, rfl⟩
theorem Reps.immTree : ∀ (ds : List D) {xs : List V}, imms ds = true → Reps K H B ds xs → Trees K H ds xs []
  | [], _, _, h => ⟨h, rfl⟩
  | d :: ds, _, i, h => by
    unfold imms at i
    rw [Bool.and_eq_true] at i
    unfold Reps at h
    unfold Trees
    obtain ⟨x, r, e, h1, h2⟩ := h
    exact ⟨x, r, [], [], e, Rep.immTree d i.1 h1, Reps.immTree ds i.2 h2, rfl⟩
end
mutual
theorem Tree.rep : ∀ (d : D) {v : V} {A : List Addr}, Tree K H d v A → (∀ a ∈ A, ¬ B a) → Rep K H B d v
  | .non, _, _, h, _ => h.1
  | .bl _, _, _, h, _ => h.1
  | .int _, _, _, h, _ => h.1
  | .str _, _, _, h, _ => h.1
  | .lst ds, _, _, h, n => by
    unfold Tree at h
    unfold Rep
    obtain ⟨a, xs, C, e, s, r, rfl⟩ := h
    exact ⟨a, xs, e, n a List.mem_cons_self, s, Trees.rep ds r fun b hb => n b (List.mem_cons_of_mem _ hb)⟩
  | .tup ds, _, _, h, n => by
    unfold Tree at h
    unfold Rep
    obtain ⟨a, xs, e, s, r⟩ := h
    exact ⟨a, xs, e, s, Trees.rep ds r n⟩
  | .scr _, _, _, h, _ => h.1
  | .dct ks ds, _, _, h, n => by
    unfold Tree at h
    unfold Rep
    obtain ⟨a, kvs, C, e, s, q, r, rfl⟩ := h
    exact ⟨a, kvs, e, n a List.mem_cons_self, s, q, Trees.rep ds r fun b hb => n b (List.mem_cons_of_mem _ hb)⟩
  | .exc _, _, _, h, n => by
    unfold Tree at h
    unfold Rep
    obtain ⟨a, C, e, s, r1, r2, rfl⟩ := h
    exact ⟨a, C, e, n a List.mem_cons_self, s, r1, r2⟩
  | .obj x a ks ds, _, _, h, n => by
    unfold Tree at h
    unfold Rep
    obtain ⟨C, dx, fs, A1, s, q, r1, rfl⟩ := h
    exact ⟨C, dx, fs, n a List.mem_cons_self, s, q, Trees.rep ds r1 fun b hb => n b (List.mem_cons_of_mem _ hb)⟩
  | .cel a ds, _, _, h, n => by
    unfold Tree at h
    unfold Rep
    obtain ⟨xs, C, s, e, r, rfl⟩ := h
    exact ⟨xs, n a List.mem_cons_self, s, e, Trees.rep ds r fun b hb => n b (List.mem_cons_of_mem _ hb)⟩
theorem Trees.rep : ∀ (ds : List D) {xs : List V} {A : List Addr}, Trees K H ds xs A → (∀ a ∈ A, ¬ B a) → Reps K H B ds xs
  | [], _, _, h, _ => h.1
  | d :: ds, _, _, h, n => by
    unfold Trees at h
    unfold Reps
    obtain ⟨x, r, C, C', e, h1, h2, rfl⟩ := h
    exact ⟨x, r, e, Tree.rep d h1 fun b hb => n b (List.mem_append_left _ hb), Trees.rep ds h2 fun b hb => n b (List.mem_append_right _ hb)⟩
end
/- a tree stays where its own lists stay -/
mutual
theorem Tree.keep (kt : KeepI K H H') : ∀ (d : D) {v : V} {A : List Addr}, Tree K H d v A → (∀ a ∈ A, ∀ o, H a = some o → H' a = some o) → Tree K H' d v A
  | .non, _, _, h, _ => h
  | .bl _, _, _, h, _ => h
  | .int _, _, _, h, _ => h
  | .str _, _, _, h, _ => h
  | .lst ds, _, _, h, n => by
    unfold Tree at h ⊢
    obtain ⟨a, xs, C, e, s, r, rfl⟩ := h
    exact ⟨a, xs, C, e, n a List.mem_cons_self _ s, Trees.keep kt ds r fun b hb => n b (List.mem_cons_of_mem _ hb), rfl⟩
  | .tup ds, _, _, h, n => by
    unfold Tree at h ⊢
    obtain ⟨a, xs, e, s, r⟩ := h
    exact ⟨a, xs, e, kt.st a xs s, Trees.keep kt ds r n⟩
  | .scr _, _, _, h, _ => by
    unfold Tree at h ⊢
    obtain ⟨⟨a, e, s⟩, q⟩ := h
    exact ⟨⟨a, e, kt.sf a _ s⟩, q⟩
  | .dct ks ds, _, _, h, n => by
    unfold Tree at h ⊢
    obtain ⟨a, kvs, C, e, s, q, r, rfl⟩ := h
    exact ⟨a, kvs, C, e, n a List.mem_cons_self _ s, q, Trees.keep kt ds r fun b hb => n b (List.mem_cons_of_mem _ hb), rfl⟩
  | .exc _, _, _, h, n => by
    unfold Tree at h ⊢
    obtain ⟨a, C, e, s, r1, r2, rfl⟩ := h
    exact ⟨a, C, e, n a List.mem_cons_self _ s, r1, r2, rfl⟩
  | .obj x a ks ds, _, _, h, n => by
    unfold Tree at h ⊢
    obtain ⟨C, dx, fs, A1, s, q, r1, rfl⟩ := h
    exact ⟨C, dx, fs, A1, n a List.mem_cons_self _ s, q, Trees.keep kt ds r1 fun b hb => n b (List.mem_cons_of_mem _ hb), rfl⟩
  | .cel a ds, _, _, h, n => by
    unfold Tree at h ⊢
    obtain ⟨xs, C, s, e, r, rfl⟩ := h
    exact ⟨xs, C, n a List.mem_cons_self _ s, e, Trees.keep kt ds r fun b hb => n b (List.mem_cons_of_mem _ hb), rfl⟩
theorem Trees.keep (kt : KeepI K H H') : ∀ (ds : List D) {xs : List V} {A : List Addr}, Trees K H ds xs A → (∀ a ∈ A, ∀ o, H a = some o → H' a = some o) → Trees K H' ds xs A
  | [], _, _, h, _ => h
  | d :: ds, _, _, h, n => by
    unfold Trees at h ⊢
    obtain ⟨x, r, C, C', e, h1, h2, rfl⟩ := h
    exact ⟨x, r, C, C', e, Tree.keep kt d h1 fun b hb => n b (List.mem_append_left _ hb), Trees.keep kt ds h2 fun b hb => n b (List.mem_append_right _ hb), rfl⟩
end
/- what a tree's addresses hold -/
mutual
theorem Tree.held : ∀ (d : D) {v : V} {A : List Addr}, Tree K H d v A → ∀ a ∈ A, ∃ o, H a = some o ∧ Mut (some o)
  | .non, _, _, h, a, ha => by rw [h.2] at ha; cases ha
  | .bl _, _, _, h, a, ha => by rw [h.2] at ha; cases ha
  | .int _, _, _, h, a, ha => by rw [h.2] at ha; cases ha
  | .str _, _, _, h, a, ha => by rw [h.2] at ha; cases ha
  | .lst ds, _, _, h, b, hb => by
    unfold Tree at h
    obtain ⟨a, xs, C, e, s, r, rfl⟩ := h
    rcases List.mem_cons.mp hb with z | z
    · subst z; exact ⟨_, s, trivial⟩
    · exact Trees.held ds r b z
  | .tup ds, _, _, h, b, hb => by
    unfold Tree at h
    obtain ⟨a, xs, e, s, r⟩ := h
    exact Trees.held ds r b hb
  | .scr _, _, _, h, a, ha => by rw [h.2] at ha; cases ha
  | .dct ks ds, _, _, h, b, hb => by
    unfold Tree at h
    obtain ⟨a, kvs, C, e, s, q, r, rfl⟩ := h
    rcases List.mem_cons.mp hb with z | z
    · subst z; exact ⟨_, s, trivial⟩
    · exact Trees.held ds r b z
  | .exc _, _, _, h, b, hb => by
    unfold Tree at h
    obtain ⟨a, C, e, s, r1, r2, rfl⟩ := h
    rw [List.mem_singleton.mp hb]
    exact ⟨_, s, trivial⟩
  | .obj x a ks ds, _, _, h, b, hb => by
    unfold Tree at h
    obtain ⟨C, dx, fs, A1, s, q, r1, rfl⟩ := h
    rcases List.mem_cons.mp hb with z | z
    · subst z; exact ⟨_, s, trivial⟩
    · exact Trees.held ds r1 b z
  | .cel a ds, _, _, h, b, hb => by
    unfold Tree at h
    obtain ⟨xs, C, s, e, r, rfl⟩ := h
    rcases List.mem_cons.mp hb with z | z
    · subst z; exact ⟨_, s, trivial⟩
    · exact Trees.held ds r b z
theorem Trees.held : ∀ (ds : List D) {xs : List V} {A : List Addr}, Trees K H ds xs A → ∀ a ∈ A, ∃ o, H a = some o ∧ Mut (some o)
  | [], _, _, h, a, ha => by rw [h.2] at ha; cases ha
  | d :: ds, _, _, h, b, hb => by
    unfold Trees at h
    obtain ⟨x, r, C, C', e, h1, h2, rfl⟩ := h
    rcases List.mem_append.mp hb with z | z
    · exact Tree.held d h1 b z
    · exact Trees.held ds h2 b z
end

theorem Same.rd {H H' : Hp} {a : Addr} {u : HO} (e : Same H H') (h : Rd H a u) : Rd H' a u := h.elim (fun z => .inl (e _ _ z)) fun ⟨o, z⟩ => .inr ⟨o, e _ _ z⟩
theorem Same.sf (e : Same H H') {a : Addr} {xs : List V} (h : SqF K H a xs) : SqF K H' a xs := h.elim (fun ⟨o, z⟩ => .inl ⟨o, e _ _ z⟩) .inr
theorem Keep.same (e : Same H H') : Keep K B H H' := ⟨fun _ _ _ h => e _ _ h, fun _ _ h => e.tup h, fun _ _ h => e.sf h, fun _ _ _ h => e _ _ h, fun _ _ _ h => e _ _ h, fun _ _ _ _ _ h => e _ _ h⟩
theorem KeepI.same (e : Same H H') : KeepI K H H' := ⟨fun _ _ h => e.tup h, fun _ _ h => e.sf h⟩
theorem Rep.mono {d : D} {v : V} (h : Rep K H B d v) (e : Same H H') : Rep K H' B d v := Rep.keep (.same e) d h
theorem Reps.mono {ds : List D} {xs : List V} (h : Reps K H B ds xs) (e : Same H H') : Reps K H' B ds xs := Reps.keep (.same e) ds h
theorem Tree.mono {d : D} {v : V} {A : List Addr} (h : Tree K H d v A) (e : Same H H') : Tree K H' d v A := Tree.keep (.same e) d h fun a _ o z => e a o z
theorem Trees.mono {ds : List D} {v : List V} {A : List Addr} (h : Trees K H ds v A) (e : Same H H') : Trees K H' ds v A := Trees.keep (.same e) ds h fun a _ o z => e a o z

/- what is not there yet is not gone through -/
mutual
theorem Rep.wide {C : Addr → Prop} (hc : ∀ a, C a → H a = none) : ∀ (d : D) {v : V}, Rep K H B d v → Rep K H (fun a => B a ∨ C a) d v
  | .non, _, h => h
  | .bl _, _, h => h
  | .int _, _, h => h
  | .str _, _, h => h
  | .lst ds, _, h => by
    unfold Rep at h ⊢
    obtain ⟨a, xs, e, n, s, r⟩ := h
    refine ⟨a, xs, e, fun z => z.elim n fun z => ?_, s, Reps.wide hc ds r⟩
    rw [hc a z] at s; cases s
  | .tup ds, _, h => by
    unfold Rep at h ⊢
    obtain ⟨a, xs, e, s, r⟩ := h
    exact ⟨a, xs, e, s, Reps.wide hc ds r⟩
  | .scr _, _, h => h
  | .dct ks ds, _, h => by
    unfold Rep at h ⊢
    obtain ⟨a, kvs, e, n, s, q, r⟩ := h
    refine ⟨a, kvs, e, fun z => z.elim n fun z => ?_, s, q, Reps.wide hc ds r⟩
    rw [hc a z] at s; cases s
  | .exc _, _, h => by
    unfold Rep at h ⊢
    obtain ⟨a, C, e, n, s, r⟩ := h
    refine ⟨a, C, e, fun z => z.elim n fun z => ?_, s, r⟩
    rw [hc a z] at s; cases s
  | .obj x a ks ds, _, h => by
    unfold Rep at h ⊢
    obtain ⟨C', dx, fs, n, s, q, r1⟩ := h
    refine ⟨C', dx, fs, fun z => z.elim n fun z => ?_, s, q, Reps.wide hc ds r1⟩
    rw [hc a z] at s; cases s
  | .cel a ds, _, h => by
    unfold Rep at h ⊢
    obtain ⟨xs, n, s, e, r⟩ := h
    refine ⟨xs, fun z => z.elim n fun z => ?_, s, e, Reps.wide hc ds r⟩
    rw [hc a z] at s; cases s
theorem Reps.wide {C : Addr → Prop} (hc : ∀ a, C a → H a = none) : ∀ (ds : List D) {xs : List V}, Reps K H B ds xs → Reps K H (fun a => B a ∨ C a) ds xs
  | [], _, h => h
  | d :: ds, _, h => by
    unfold Reps at h ⊢
    obtain ⟨x, r, e, h1, h2⟩ := h
    exact ⟨x, r, e, Rep.wide hc d h1, Reps.wide hc ds h2⟩
end
/-- a list or dict of B is written -/
theorem Keep.upd {a : Addr} {o : HO} (hb : B a) (mu : Mut (H a)) : Keep K B H (upd H a o) := by
  refine ⟨fun b xs n h => ?_, fun b xs h => ?_, fun b xs h => ?_, fun b kvs n h => ?_, fun b φ n h => ?_, fun b C dx fs n h => ?_⟩
  · have ne : b ≠ a := fun z => n (z ▸ hb)
    rw [upd_ne ne]; exact h
  · rcases h with (h | ⟨u, h⟩) | h
    · have ne : b ≠ a := fun z => by subst z; rw [h] at mu; exact mu
      exact .inl (.inl (by rw [upd_ne ne]; exact h))
    · have ne : b ≠ a := fun z => by subst z; rw [h] at mu; exact mu
      exact .inl (.inr ⟨u, by rw [upd_ne ne]; exact h⟩)
    · exact .inr h
  · rcases h with ⟨u, h⟩ | h
    · have ne : b ≠ a := fun z => by subst z; rw [h] at mu; exact mu
      exact .inl ⟨u, by rw [upd_ne ne]; exact h⟩
    · exact .inr h
  · have ne : b ≠ a := fun z => n (z ▸ hb)
    rw [upd_ne ne]; exact h
  · have ne : b ≠ a := fun z => n (z ▸ hb)
    rw [upd_ne ne]; exact h
  · have ne : b ≠ a := fun z => n (z ▸ hb)
    rw [upd_ne ne]; exact h
theorem same_upd {a : Addr} {o : HO} (h : H a = none) : Same H (upd H a o) := fun b u e => by rw [upd_ne (ne_of_none e h)]; exact e

theorem Reps.length : ∀ {ds : List D} {xs : List V}, Reps K H B ds xs → ds.length = xs.length
  | [], _, h => by unfold Reps at h; subst h; rfl
  | d :: ds, _, h => by
    unfold Reps at h
    obtain ⟨x, r, rfl, _, h2⟩ := h
    simp [Reps.length h2]
theorem Reps.get : ∀ {ds : List D} {xs : List V} {i : Nat} {d : D}, Reps K H B ds xs → ds[i]? = some d → ∃ x, xs[i]? = some x ∧ Rep K H B d x
  | [], _, _, _, _, e => by simp at e
  | d :: ds, _, i, d', h, e => by
    unfold Reps at h
    obtain ⟨x, r, rfl, h1, h2⟩ := h
    cases i with
    | zero => simp at e; subst e; exact ⟨x, rfl, h1⟩
    | succ i => simpa using Reps.get (i := i) h2 (by simpa using e)
theorem Reps.get' : ∀ {ds : List D} {xs : List V} {i : Nat} {x : V}, Reps K H B ds xs → xs[i]? = some x → ∃ d, ds[i]? = some d ∧ Rep K H B d x
  | [], _, _, _, h, e => by unfold Reps at h; subst h; simp at e
  | d :: ds, _, i, x', h, e => by
    unfold Reps at h
    obtain ⟨x, r, rfl, h1, h2⟩ := h
    cases i with
    | zero => simp at e; subst e; exact ⟨d, rfl, h1⟩
    | succ i => simpa using Reps.get' (i := i) h2 (by simpa using e)
theorem Reps.append : ∀ {ds es : List D} {xs ys : List V}, Reps K H B ds xs → Reps K H B es ys → Reps K H B (ds ++ es) (xs ++ ys)
  | [], _, _, _, h, h' => by unfold Reps at h; subst h; exact h'
  | d :: ds, es, _, ys, h, h' => by
    unfold Reps at h
    obtain ⟨x, r, rfl, h1, h2⟩ := h
    exact (show Reps K H B (d :: (ds ++ es)) (x :: (r ++ ys)) by unfold Reps; exact ⟨x, r ++ ys, rfl, h1, Reps.append h2 h'⟩)
theorem Reps.take : ∀ {ds : List D} {xs : List V} (n : Nat), Reps K H B ds xs → Reps K H B (ds.take n) (xs.take n)
  | _, _, 0, _ => by rw [List.take_zero, List.take_zero]; unfold Reps; rfl
  | [], _, _ + 1, h => by unfold Reps at h; subst h; unfold Reps; rfl
  | d :: ds, _, n + 1, h => by
    unfold Reps at h
    obtain ⟨x, r, rfl, h1, h2⟩ := h
    rw [List.take_succ_cons, List.take_succ_cons]
    unfold Reps
    exact ⟨x, _, rfl, h1, Reps.take n h2⟩
theorem Reps.drop : ∀ {ds : List D} {xs : List V} (n : Nat), Reps K H B ds xs → Reps K H B (ds.drop n) (xs.drop n)
  | _, _, 0, h => h
  | [], _, _ + 1, h => by unfold Reps at h; subst h; unfold Reps; rfl
  | d :: ds, _, n + 1, h => by
    unfold Reps at h
    obtain ⟨x, r, rfl, h1, h2⟩ := h
    exact Reps.drop n h2
theorem Reps.one {d : D} {x : V} (h : Rep K H B d x) : Reps K H B [d] [x] := by unfold Reps; exact ⟨x, [], rfl, h, by unfold Reps; rfl⟩
theorem Reps.nil : Reps K H B [] [] := by unfold Reps; rfl
theorem Reps.cons {d : D} {x : V} {ds : List D} {xs : List V} (h : Rep K H B d x) (h' : Reps K H B ds xs) : Reps K H B (d :: ds) (x :: xs) := by unfold Reps; exact ⟨x, xs, rfl, h, h'⟩
theorem Reps.snoc {d : D} {x : V} {ds : List D} {xs : List V} (h' : Reps K H B ds xs) (h : Rep K H B d x) : Reps K H B (ds ++ [d]) (xs ++ [x]) := h'.append (.one h)
theorem Trees.nil : Trees K H [] [] [] := ⟨rfl, rfl⟩
theorem Trees.snoc : ∀ {ds : List D} {xs : List V} {A C : List Addr} {d : D} {x : V}, Trees K H ds xs A → Tree K H d x C → Trees K H (ds ++ [d]) (xs ++ [x]) (A ++ C)
  | [], _, _, C, d, x, h, h' => by
    obtain ⟨rfl, rfl⟩ := h
    exact (show Trees K H [d] [x] C by unfold Trees; exact ⟨x, [], C, [], rfl, h', ⟨rfl, rfl⟩, (List.append_nil _).symm⟩)
  | e :: ds, _, _, C, d, x, h, h' => by
    unfold Trees at h
    obtain ⟨y, r, A1, A2, rfl, h1, h2, rfl⟩ := h
    exact (show Trees K H (e :: (ds ++ [d])) (y :: (r ++ [x])) (A1 ++ A2 ++ C) by unfold Trees; exact ⟨y, _, A1, A2 ++ C, rfl, h1, Trees.snoc h2 h', List.append_assoc _ _ _⟩)
end
end L2

/-! ### E3: expressions by trees -/
namespace L2
open PySem PySem.Spec PyProof.Rows

abbrev DS := List (Option D)
abbrev DE := DS → Option D
structure RepS (K : PySem.W.Frag) (H : Hp) (B : Addr → Prop) (σ : St) (δ : DS) : Prop where
  len : δ.length = σ.length
  get : ∀ (i : Nat) (d : D), δ[i]? = some (some d) → ∃ v, σ[i]? = some (some v) ∧ Rep K H B d v
def InB (B : Addr → Prop) (H : Hp) : Prop := ∀ a, B a → ∃ o, H a = some o
def noB : Addr → Prop := fun _ => False
theorem InB.mono {B : Addr → Prop} {H H' : Hp} (h : InB B H) (e : Same H H') : InB B H' := fun a b => let ⟨o, q⟩ := h a b; ⟨o, e a o q⟩
theorem InB.no {H : Hp} : InB noB H := fun _ b => b.elim
theorem InB.fresh {B : Addr → Prop} {H : Hp} (h : InB B H) {a : Addr} (e : H a = none) : ¬ B a := fun b => by
  obtain ⟨o, q⟩ := h a b
  rw [e] at q; cases q
theorem RepS.mono {K : PySem.W.Frag} {H H' : Hp} {B : Addr → Prop} {σ : St} {δ : DS} (h : RepS K H B σ δ) (e : Same H H') : RepS K H' B σ δ :=
  ⟨h.len, fun i d q => let ⟨v, a, r⟩ := h.get i d q; ⟨v, a, r.mono e⟩⟩
theorem RepS.anti {K : PySem.W.Frag} {H : Hp} {B B' : Addr → Prop} {σ : St} {δ : DS} (h : RepS K H B σ δ) (e : ∀ a, B' a → B a) : RepS K H B' σ δ :=
  ⟨h.len, fun i d q => let ⟨v, a, r⟩ := h.get i d q; ⟨v, a, r.anti e⟩⟩

/-- an expression's tree: shared with what is there (D), a list just made (F), a tree all new (N); a test's bool (T); arguments (Ds) -/
def tD (K : PySem.W.Frag) (f : DE) : TE := fun σ H Q => ∃ B δ d, InB B H ∧ RepS K H B σ δ ∧ f δ = some d ∧ ∀ v H', Same H H' → Rep K H' B d v → Q v H'
def tF (K : PySem.W.Frag) (f : DS → Option (List D)) : TE := fun σ H Q => ∃ B δ ds, InB B H ∧ RepS K H B σ δ ∧ f δ = some ds ∧
  ∀ a xs H', Same H H' → H a = none → H' a = some (.lst xs) → Reps K H' B ds xs → Q (.ref a) H'
def tN (K : PySem.W.Frag) (f : DE) : TE := fun σ H Q => ∃ δ d, RepS K H noB σ δ ∧ f δ = some d ∧ ∀ v H' A, Same H H' → Tree K H' d v A → A.Nodup → (∀ a ∈ A, H a = none) → Q v H'
def tT (K : PySem.W.Frag) (f : DS → Option Bool) : TT := fun σ H Q => ∃ B δ b, InB B H ∧ RepS K H B σ δ ∧ f δ = some b ∧ ∀ H', Same H H' → Q b H'
def tDs (K : PySem.W.Frag) (f : DS → Option (List D)) : TA := fun σ H Q => ∃ B δ ds, InB B H ∧ RepS K H B σ δ ∧ f δ = some ds ∧ ∀ vs H', Same H H' → Reps K H' B ds vs → Q vs H'
abbrev PD (X : Cx) (e : Expr) (f : DE) : Prop := PE X e (tD X.K f)
abbrev PF (X : Cx) (e : Expr) (f : DS → Option (List D)) : Prop := PE X e (tF X.K f)
abbrev PN (X : Cx) (e : Expr) (f : DE) : Prop := PE X e (tN X.K f)
abbrev PTD (X : Cx) (e : Expr) (f : DS → Option Bool) : Prop := PT X e (tT X.K f)
abbrev PWD (X : Cx) (e : Expr) (f : DS → Option Bool) : Prop := PW X e (tT X.K f)

section
variable {X : Cx} {e a b c : Expr} {es : List Expr} {pos : Pos}
theorem PE.imp {t t' : TE} (h : PE X e t) (w : ∀ σ H Q, t' σ H Q → t σ H Q) : PE X e t' := fun pins s σ H Q I q => h pins s σ H Q I (w σ H Q q)
theorem PT.imp {t t' : TT} (h : PT X e t) (w : ∀ σ H Q, t' σ H Q → t σ H Q) : PT X e t' := fun pins s σ H Q I q => h pins s σ H Q I (w σ H Q q)
theorem PW.imp {t t' : TT} (h : PW X e t) (w : ∀ σ H Q, t' σ H Q → t σ H Q) : PW X e t' := fun wh pins s σ H Q I q => h wh pins s σ H Q I (w σ H Q q)
theorem PA.imp {t t' : TA} (h : PA X es t) (w : ∀ σ H Q, t' σ H Q → t σ H Q) : PA X es t' := fun po pins s σ H Q I q => h po pins s σ H Q I (w σ H Q q)

def mkL (f : DS → Option (List D)) : DE := fun δ => (f δ).map .lst
def mkFlat (f : DS → Option (List D)) : DE := fun δ => (f δ).bind fun ds => if imms ds = true then some (.lst ds) else none
def mkImm (f : DE) : DE := fun δ => (f δ).bind fun d => if d.imm = true then some d else none
theorem iDF {K : PySem.W.Frag} {f : DS → Option (List D)} : ∀ σ H Q, tD K (mkL f) σ H Q → tF K f σ H Q := fun σ H Q ⟨B, δ, d, hB, S, q, k⟩ => by
  unfold mkL at q
  cases r : f δ with
  | none => rw [r] at q; cases q
  | some ds =>
    rw [r] at q
    cases q
    exact ⟨B, δ, ds, hB, S, r, fun a xs H' s hn ha hr => k _ H' s (by unfold Rep; exact ⟨a, xs, rfl, hB.fresh hn, ha, hr⟩)⟩
theorem iDN {K : PySem.W.Frag} {f : DE} : ∀ σ H Q, tD K f σ H Q → tN K f σ H Q := fun σ H Q ⟨B, δ, d, hB, S, q, k⟩ =>
  ⟨δ, d, S.anti (fun _ z => z.elim), q, fun v H' A s t nd fr => k v H' s (t.rep d fun a ha => hB.fresh (fr a ha))⟩
theorem iNF {K : PySem.W.Frag} {f : DS → Option (List D)} : ∀ σ H Q, tN K (mkFlat f) σ H Q → tF K f σ H Q := fun σ H Q ⟨δ, d, S, q, k⟩ => by
  unfold mkFlat at q
  cases r : f δ with
  | none => rw [r] at q; cases q
  | some ds =>
    rw [r] at q
    have q' : (if imms ds = true then some (D.lst ds) else none) = some d := q
    split at q'
    · rename_i hi
      cases q'
      refine ⟨noB, δ, ds, .no, S, r, fun a xs H' s hn ha hr => k (.ref a) H' [a] s ?_ (List.nodup_cons.mpr ⟨(fun z => nomatch z), List.nodup_nil⟩) (fun b hb => by rw [List.mem_singleton.mp hb]; exact hn)⟩
      unfold Tree
      exact ⟨a, xs, [], rfl, ha, hr.immTree ds hi, rfl⟩
    · cases q'

theorem pd_F {f : DS → Option (List D)} (h : PF X e f) : PD X e (mkL f) := h.imp iDF
theorem pd_N {f : DE} (h : PN X e f) : PD X e f := h.imp iDN
theorem pn_F {f : DS → Option (List D)} (h : PF X e f) : PN X e (mkFlat f) := h.imp iNF

/-! ### names, constants -/
def dVar (i : Nat) : DE := fun δ => (δ[i]?).bind id
def dC (d : D) : DE := fun _ => some d
theorem pd_v (i : Nat) {x : Str} {p : Pos} (h : PE X (.Name x p) (tVar i)) : PD X (.Name x p) (dVar i) := h.imp fun σ H Q ⟨B, δ, d, hB, S, q, k⟩ => by
  unfold dVar at q
  cases r : δ[i]? with
  | none => rw [r] at q; cases q
  | some o =>
    rw [r] at q
    have q' : o = some d := q
    subst q'
    obtain ⟨v, e, rv⟩ := S.get i d r
    exact ⟨v, e, k v H (.refl H) rv⟩
theorem pd_C {d : D} {v : V} (h : PE X e (tC v)) (r : ∀ K H B, Rep K H B d v) : PD X e (dC d) := h.imp fun σ H Q ⟨B, δ, d', hB, S, q, k⟩ => by
  cases q
  exact k v H (.refl H) (r _ _ _)
theorem pd_int {i j p} : PD X (.Constant (.int i) j p) (dC (.int i)) := pd_C pe_int fun _ _ _ => rfl
theorem pd_bl {i j p} : PD X (.Constant (.bool i) j p) (dC (.bl i)) := pd_C pe_bl fun _ _ _ => rfl
theorem pd_non {j p} : PD X (.Constant .none j p) (dC .non) := pd_C pe_non fun _ _ _ => rfl
theorem pd_str {i j p} : PD X (.Constant (.str i) j p) (dC (.str i)) := pd_C pe_str fun _ _ _ => rfl

/-! ### two parts -/
def d2 (F : D → D → Option D) (f g : DE) : DE := fun δ => (f δ).bind fun x => (g δ).bind fun y => F x y
theorem d2_some {F : D → D → Option D} {f g : DE} {δ : DS} {d : D} (h : d2 F f g δ = some d) : ∃ x y, f δ = some x ∧ g δ = some y ∧ F x y = some d := by
  unfold d2 at h
  cases hx : f δ with
  | none => rw [hx] at h; cases h
  | some x =>
    rw [hx] at h
    cases hy : g δ with
    | none =>
      have h' : ((g δ).bind fun y => F x y) = some d := h
      rw [hy] at h'; cases h'
    | some y =>
      have h' : ((g δ).bind fun y => F x y) = some d := h
      rw [hy] at h'
      exact ⟨x, y, rfl, rfl, h'⟩
/-- what a rule by values says by trees -/
def Op2 (K : PySem.W.Frag) (r : R2) (F : D → D → Option D) : Prop := ∀ (H : Hp) (B : Addr → Prop) (dx dy d : D) (x y : V) (Q : VK), InB B H → Rep K H B dx x → Rep K H B dy y → F dx dy = some d → (∀ v H', Same H H' → Rep K H' B d v → Q v H') → r x y H Q
theorem two_of {r : R2} {F : D → D → Option D} {f g : DE} (ho : Op2 X.K r F) (σ : St) (H : Hp) (Q : VK) (h : tD X.K (d2 F f g) σ H Q) : tOp r (tD X.K f) (tD X.K g) σ H Q := by
  obtain ⟨B, δ, d, hB, S, q, k⟩ := h
  obtain ⟨dx, dy, e1, e2, e3⟩ := d2_some q
  exact ⟨B, δ, dx, hB, S, e1, fun v H1 s1 r1 => ⟨B, δ, dy, hB.mono s1, S.mono s1, e2, fun u H2 s2 r2 =>
    ho H2 B dx dy d v u Q ((hB.mono s1).mono s2) (r1.mono s2) r2 e3 fun z H' s' rz => k z H' ((s1.trans s2).trans s') rz⟩⟩
theorem pd_op {op : Operator} {r : R2} {F : D → D → Option D} {f g : DE} (ho : OpR X (binaryOp op) r) (hD : Op2 X.K r F) (ha : PD X a f) (hb : PD X b g) : PD X (.BinOp a op b pos) (d2 F f g) := (pe_op ho ha hb).imp (two_of hD)
theorem pd_cmp {op : CmpOp} {r : R2} {F : D → D → Option D} {f g : DE} (ho : OpR X (compareOp op) r) (hD : Op2 X.K r F) (ha : PD X a f) (hb : PD X b g) (hm : behindInMarks op b = false) : PD X (.Compare a [op] [b] pos) (d2 F f g) := (pe_cmpR ho ha hb hm).imp (two_of hD)
def dTest (f : DE) : DS → Option Bool := fun δ => match f δ with
  | some (.bl b) => some b
  | _ => none
theorem dTest_some {f : DE} {δ : DS} {b : Bool} (h : dTest f δ = some b) : f δ = some (.bl b) := by
  unfold dTest at h
  split at h
  · rename_i b' e
    cases h; exact e
  · cases h
theorem test_of {t : TE} {f : DE} (h : ∀ σ H Q, tD X.K f σ H Q → t σ H Q) (σ : St) (H : Hp) (Q : Bool → Hp → Prop) (q : tT X.K (dTest f) σ H Q) : tTest t σ H Q := by
  obtain ⟨B, δ, b, hB, S, q, k⟩ := q
  refine h σ H _ ⟨B, δ, .bl b, hB, S, dTest_some q, fun v H' s r => ?_⟩
  exact ⟨b, r, k H' s⟩
theorem pt_cmpD {op : CmpOp} {r : R2} {F : D → D → Option D} {f g : DE} (ho : OpR X (compareOp op) r) (hD : Op2 X.K r F) (ha : PD X a f) (hb : PD X b g) (hm : behindInMarks op b = false) : PTD X (.Compare a [op] [b] pos) (dTest (d2 F f g)) := (pt_cmpR ho ha hb hm).imp (test_of (two_of hD))
def dChain (F G : D → D → Option D) (f g h : DE) : DE := fun δ => (f δ).bind fun x => (g δ).bind fun y => match F x y with
  | some (.bl true) => (h δ).bind fun z => G y z
  | some (.bl false) => some (.bl false)
  | _ => none
theorem chain_of {r r' : R2} {F G : D → D → Option D} {f g h : DE} (ho : Op2 X.K r F) (ho' : Op2 X.K r' G) (σ : St) (H : Hp) (Q : VK) (q : tD X.K (dChain F G f g h) σ H Q) : tChain r r' (tD X.K f) (tD X.K g) (tD X.K h) σ H Q := by
  obtain ⟨B, δ, d, hB, S, q, k⟩ := q
  unfold dChain at q
  cases e1 : f δ with
  | none => rw [e1] at q; cases q
  | some x =>
    rw [e1] at q
    cases e2 : g δ with
    | none =>
      have q' : ((g δ).bind _) = some d := q
      rw [e2] at q'; cases q'
    | some y =>
      have q' : ((g δ).bind _) = some d := q
      rw [e2] at q'
      have q2 : (match F x y with | some (.bl true) => (h δ).bind fun z => G y z | some (.bl false) => some (.bl false) | _ => none) = some d := q'
      refine ⟨B, δ, x, hB, S, e1, fun v H1 s1 r1 => ⟨B, δ, y, hB.mono s1, S.mono s1, e2, fun u H2 s2 r2 => ?_⟩⟩
      split at q2
      · rename_i e3
        refine ho H2 B x y _ v u _ ((hB.mono s1).mono s2) (r1.mono s2) r2 e3 fun z H3 s3 r3 => ⟨true, r3, ?_⟩
        rw [if_pos rfl]
        cases e4 : h δ with
        | none => rw [e4] at q2; cases q2
        | some w =>
          rw [e4] at q2
          have q4 : G y w = some d := q2
          refine ⟨B, δ, w, ((hB.mono s1).mono s2).mono s3, ((S.mono s1).mono s2).mono s3, e4, fun t H4 s4 r4 => ?_⟩
          exact ho' H4 B y w d u t Q ((((hB.mono s1).mono s2).mono s3).mono s4) ((r2.mono s3).mono s4) r4 q4 fun z' H' s' rz => k z' H' ((((s1.trans s2).trans s3).trans s4).trans s') rz
      · rename_i e3
        cases q2
        refine ho H2 B x y _ v u _ ((hB.mono s1).mono s2) (r1.mono s2) r2 e3 fun z H3 s3 r3 => ⟨false, r3, ?_⟩
        rw [if_neg Bool.false_ne_true]
        exact k _ H3 ((s1.trans s2).trans s3) rfl
      · cases q2
theorem pd_chain {op op' : CmpOp} {r r' : R2} {F G : D → D → Option D} {f g h : DE} (ho : OpR X (compareOp op) r) (ho' : OpR X (compareOp op') r') (hF : Op2 X.K r F) (hG : Op2 X.K r' G) (ha : PD X a f) (hb : PD X b g) (hc : PD X c h)
    (hm : lastMarks [op, op'] [b, c] = false := by with_unfolding_all rfl) : PD X (.Compare a [op, op'] [b, c] pos) (dChain F G f g h) := (pe_chain ho ho' ha hb hc hm).imp (chain_of hF hG)
theorem pt_chainD {op op' : CmpOp} {r r' : R2} {F G : D → D → Option D} {f g h : DE} (ho : OpR X (compareOp op) r) (ho' : OpR X (compareOp op') r') (hF : Op2 X.K r F) (hG : Op2 X.K r' G) (ha : PD X a f) (hb : PD X b g) (hc : PD X c h)
    (hm : lastMarks [op, op'] [b, c] = false := by with_unfolding_all rfl) : PTD X (.Compare a [op, op'] [b, c] pos) (dTest (dChain F G f g h)) := (pt_chain ho ho' ha hb hc hm).imp (test_of (chain_of hF hG))

/-! ### ints -/
def iop (F : Int → Int → Option D) : D → D → Option D
  | .int i, .int j => F i j
  | _, _ => none
theorem iop_some {F : Int → Int → Option D} {x y d : D} (h : iop F x y = some d) : ∃ i j, x = .int i ∧ y = .int j ∧ F i j = some d := by
  unfold iop at h
  split at h
  · exact ⟨_, _, rfl, rfl, h⟩
  · cases h
theorem o2_int {K : PySem.W.Frag} {C : Int → Int → Prop} [∀ i j, Decidable (C i j)] {g : Int → Int → Int} : Op2 K (rI C fun i j => .int (g i j)) (iop fun i j => if C i j then some (.int (g i j)) else none) := by
  intro H B dx dy d x y Q hB hx hy q k
  obtain ⟨i, j, rfl, rfl, q2⟩ := iop_some q
  by_cases hc : C i j
  · rw [if_pos hc] at q2
    cases q2
    exact ⟨i, j, hx, hy, hc, k _ H (.refl H) rfl⟩
  · rw [if_neg hc] at q2
    cases q2
theorem o2_int0 {K : PySem.W.Frag} {g : Int → Int → Int} : Op2 K (rI0 fun i j => .int (g i j)) (iop fun i j => some (.int (g i j))) := by
  intro H B dx dy d x y Q hB hx hy q k
  obtain ⟨i, j, rfl, rfl, q2⟩ := iop_some q
  cases q2
  exact ⟨i, j, hx, hy, k _ H (.refl H) rfl⟩
theorem o2_bool0 {K : PySem.W.Frag} {g : Int → Int → Bool} : Op2 K (rI0 fun i j => .bl (g i j)) (iop fun i j => some (.bl (g i j))) := by
  intro H B dx dy d x y Q hB hx hy q k
  obtain ⟨i, j, rfl, rfl, q2⟩ := iop_some q
  cases q2
  exact ⟨i, j, hx, hy, k _ H (.refl H) rfl⟩
theorem Op2.or {K : PySem.W.Frag} {r r' : R2} {F G : D → D → Option D} (h : Op2 K r F) (h' : Op2 K r' G) : Op2 K (fun x y H Q => r x y H Q ∨ r' x y H Q) (fun x y => (F x y).orElse fun _ => G x y) := by
  intro H B dx dy d x y Q hB hx hy q k
  cases e : F dx dy with
  | some d' =>
    have q' : (F dx dy).orElse (fun _ => G dx dy) = some d := q
    rw [e] at q'
    cases q'
    exact .inl (h H B dx dy _ x y Q hB hx hy e k)
  | none =>
    have q' : (F dx dy).orElse (fun _ => G dx dy) = some d := q
    rw [e] at q'
    exact .inr (h' H B dx dy d x y Q hB hx hy q' k)

/-! ### one part -/
def d1 (F : D → Option D) (f : DE) : DE := fun δ => (f δ).bind F
theorem d1_some {F : D → Option D} {f : DE} {δ : DS} {d : D} (h : d1 F f δ = some d) : ∃ x, f δ = some x ∧ F x = some d := by
  unfold d1 at h
  cases hx : f δ with
  | none => rw [hx] at h; cases h
  | some x => rw [hx] at h; exact ⟨x, rfl, h⟩
def uNeg : D → Option D
  | .int i => some (.int (-i))
  | _ => none

/-! ### and, or, not, if -/
def truthD : D → Option Bool
  | .non => some false
  | .bl b => some b
  | .int i => some (i != 0)
  | .str x => if x.length ≤ sizeLine then some ((x.length : Int) != 0) else none
  | .lst ds => some (!ds.isEmpty)
  | .tup ds => some (!ds.isEmpty)
  | .scr ns => some (!ns.isEmpty)
  | .dct ks _ => some (!ks.isEmpty)
  | .exc _ => none
  | .obj _ _ _ _ => none
  | .cel _ _ => none
def dTruth (f : DE) : DS → Option Bool := fun δ => (f δ).bind truthD
theorem empty_eq {K : PySem.W.Frag} {H : Hp} {B : Addr → Prop} {ds : List D} {xs : List V} (h : Reps K H B ds xs) : (!ds.isEmpty) = !xs.isEmpty := by
  have := h.length
  cases ds <;> cases xs <;> simp_all
theorem truth_rep {K : PySem.W.Frag} {H : Hp} {B : Addr → Prop} {d : D} {v : V} {k : Bool} (h : Rep K H B d v) (e : truthD d = some k) : TruV K v H k := by
  cases d with
  | non => cases h; cases e; rfl
  | bl b => cases h; cases e; rfl
  | int i => cases h; cases e; rfl
  | str x =>
    cases h
    have e' : (if x.length ≤ sizeLine then some ((x.length : Int) != 0) else none) = some k := e
    by_cases hl : x.length ≤ sizeLine
    · rw [if_pos hl] at e'
      cases e'
      exact ⟨hl, rfl⟩
    · rw [if_neg hl] at e'
      cases e'
  | lst ds =>
    unfold Rep at h
    obtain ⟨a, xs, rfl, _, s, r⟩ := h
    cases e
    exact .inl ⟨xs, SqL.of s, empty_eq r⟩
  | tup ds =>
    unfold Rep at h
    obtain ⟨a, xs, rfl, s, r⟩ := h
    cases e
    exact .inr (.inl ⟨xs, s, empty_eq r⟩)
  | scr ns =>
    unfold Rep at h
    obtain ⟨a, rfl, s⟩ := h
    cases e
    exact .inl ⟨_, s.sq, by cases ns <;> rfl⟩
  | dct ks ds =>
    unfold Rep at h
    obtain ⟨a, kvs, rfl, _, s, q, r⟩ := h
    cases e
    refine .inr (.inr ⟨kvs, s, ?_⟩)
    rw [← q]
    cases kvs <;> rfl
  | exc _ => cases e
  | obj _ _ _ _ => cases e
  | cel _ _ => cases e
theorem pt_truthD {f : DE} (h : PD X a f) (he : ∀ whole, isTrue a X.env whole = (do let v ← whole; standAt a.pos; holding [v] (truthy v)) := by intro _; rfl) : PTD X a (dTruth f) := (pt_truth h he).imp fun σ H Q ⟨B, δ, k, hB, S, q, kk⟩ => by
  unfold dTruth at q
  cases e : f δ with
  | none => rw [e] at q; cases q
  | some d =>
    rw [e] at q
    exact ⟨B, δ, d, hB, S, e, fun v H' s r => ⟨k, truth_rep r q, kk H' s⟩⟩
def dAndT (f g : DS → Option Bool) : DS → Option Bool := fun δ => (f δ).bind fun c => if c = true then g δ else some false
def dOrT (f g : DS → Option Bool) : DS → Option Bool := fun δ => (f δ).bind fun c => if c = true then some true else g δ
def dNotT (f : DS → Option Bool) : DS → Option Bool := fun δ => (f δ).map (!·)
theorem pw_and1D {f : DS → Option Bool} (h : PTD X a f) : PWD X (.BoolOp .And [a] pos) f := pw_and1 h
theorem pw_or1D {f : DS → Option Bool} (h : PTD X a f) : PWD X (.BoolOp .Or [a] pos) f := pw_or1 h
theorem pw_andD {rest : List Expr} {f g : DS → Option Bool} (ha : PTD X a f) (hb : PWD X (.BoolOp .And (b :: rest) pos) g) : PWD X (.BoolOp .And (a :: b :: rest) pos) (dAndT f g) := (pw_and ha hb).imp fun σ H Q ⟨B, δ, k, hB, S, q, kk⟩ => by
  unfold dAndT at q
  cases e : f δ with
  | none => rw [e] at q; cases q
  | some c =>
    rw [e] at q
    refine ⟨B, δ, c, hB, S, e, fun H1 s1 => ?_⟩
    have q' : (if c = true then g δ else some false) = some k := q
    cases c with
    | true =>
      rw [if_pos rfl] at q'
      refine iteT ?_
      exact ⟨B, δ, k, hB.mono s1, S.mono s1, q', fun H2 s2 => kk H2 (s1.trans s2)⟩
    | false =>
      rw [if_neg Bool.false_ne_true] at q'
      refine iteF ?_
      cases q'
      exact kk H1 s1
theorem pw_orD {rest : List Expr} {f g : DS → Option Bool} (ha : PTD X a f) (hb : PWD X (.BoolOp .Or (b :: rest) pos) g) : PWD X (.BoolOp .Or (a :: b :: rest) pos) (dOrT f g) := (pw_or ha hb).imp fun σ H Q ⟨B, δ, k, hB, S, q, kk⟩ => by
  unfold dOrT at q
  cases e : f δ with
  | none => rw [e] at q; cases q
  | some c =>
    rw [e] at q
    refine ⟨B, δ, c, hB, S, e, fun H1 s1 => ?_⟩
    have q' : (if c = true then some true else g δ) = some k := q
    cases c with
    | true =>
      rw [if_pos rfl] at q'
      refine iteT ?_
      cases q'
      exact kk H1 s1
    | false =>
      rw [if_neg Bool.false_ne_true] at q'
      refine iteF ?_
      exact ⟨B, δ, k, hB.mono s1, S.mono s1, q', fun H2 s2 => kk H2 (s1.trans s2)⟩
theorem pt_notD {f : DS → Option Bool} (h : PTD X a f) : PTD X (.UnaryOp .Not a pos) (dNotT f) := (pt_not h).imp fun σ H Q ⟨B, δ, k, hB, S, q, kk⟩ => by
  unfold dNotT at q
  cases e : f δ with
  | none => rw [e] at q; cases q
  | some c =>
    rw [e] at q
    cases q
    exact ⟨B, δ, c, hB, S, e, kk⟩
def dAnd (f g : DE) : DE := fun δ => match f δ with
  | some (.bl true) => g δ
  | some (.bl false) => some (.bl false)
  | _ => none
def dOr (f g : DE) : DE := fun δ => match f δ with
  | some (.bl true) => some (.bl true)
  | some (.bl false) => g δ
  | _ => none
def uNot : D → Option D
  | .bl b => some (.bl (!b))
  | _ => none
theorem pd_one {op} {f : DE} (h : PD X a f) : PD X (.BoolOp op [a] pos) f := pe_one h
theorem pd_and {rest : List Expr} {f g : DE} (ha : PD X a f) (hb : PD X (.BoolOp .And (b :: rest) pos) g) : PD X (.BoolOp .And (a :: b :: rest) pos) (dAnd f g) := (pe_and ha hb).imp fun σ H Q ⟨B, δ, d, hB, S, q, k⟩ => by
  unfold dAnd at q
  split at q
  · rename_i e
    refine ⟨B, δ, .bl true, hB, S, e, fun v H1 s1 r => ⟨true, r, ?_⟩⟩
    rw [if_pos rfl]
    exact ⟨B, δ, d, hB.mono s1, S.mono s1, q, fun v2 H2 s2 r2 => k v2 H2 (s1.trans s2) r2⟩
  · rename_i e
    cases q
    refine ⟨B, δ, .bl false, hB, S, e, fun v H1 s1 r => ⟨false, r, ?_⟩⟩
    rw [if_neg Bool.false_ne_true]
    exact k _ H1 s1 rfl
  · cases q
theorem pd_or {rest : List Expr} {f g : DE} (ha : PD X a f) (hb : PD X (.BoolOp .Or (b :: rest) pos) g) : PD X (.BoolOp .Or (a :: b :: rest) pos) (dOr f g) := (pe_or ha hb).imp fun σ H Q ⟨B, δ, d, hB, S, q, k⟩ => by
  unfold dOr at q
  split at q
  · rename_i e
    cases q
    refine ⟨B, δ, .bl true, hB, S, e, fun v H1 s1 r => ⟨true, r, ?_⟩⟩
    rw [if_pos rfl]
    exact k _ H1 s1 rfl
  · rename_i e
    refine ⟨B, δ, .bl false, hB, S, e, fun v H1 s1 r => ⟨false, r, ?_⟩⟩
    rw [if_neg Bool.false_ne_true]
    exact ⟨B, δ, d, hB.mono s1, S.mono s1, q, fun v2 H2 s2 r2 => k v2 H2 (s1.trans s2) r2⟩
  · cases q
theorem pd_not {f : DE} (h : PD X a f) : PD X (.UnaryOp .Not a pos) (d1 uNot f) := (pe_not h).imp fun σ H Q ⟨B, δ, d, hB, S, q, k⟩ => by
  obtain ⟨x, e1, e2⟩ := d1_some q
  refine ⟨B, δ, x, hB, S, e1, fun v H' s r => ?_⟩
  unfold uNot at e2
  split at e2
  · cases e2
    exact ⟨_, r, k _ H' s rfl⟩
  · cases e2
def dIf (c : DS → Option Bool) (f g : DE) : DE := fun δ => (c δ).bind fun k => if k = true then f δ else g δ

/-! ### arguments, displays -/
def dArgs : List DE → DS → Option (List D)
  | [], _ => some []
  | f :: r, δ => (f δ).bind fun x => (dArgs r δ).bind fun xs => some (x :: xs)
theorem dArgs_some {f : DE} {r : List DE} {δ : DS} {ds : List D} (h : dArgs (f :: r) δ = some ds) : ∃ x xs, f δ = some x ∧ dArgs r δ = some xs ∧ ds = x :: xs := by
  unfold dArgs at h
  cases hx : f δ with
  | none => rw [hx] at h; cases h
  | some x =>
    rw [hx] at h
    have h' : ((dArgs r δ).bind fun xs => some (x :: xs)) = some ds := h
    cases hy : dArgs r δ with
    | none => rw [hy] at h'; cases h'
    | some xs =>
      rw [hy] at h'
      cases h'
      exact ⟨x, xs, rfl, rfl, rfl⟩
theorem dArgs_length : ∀ {fl : List DE} {δ : DS} {ds : List D}, dArgs fl δ = some ds → ds.length = fl.length
  | [], _, _, h => by cases h; rfl
  | f :: r, δ, ds, h => by
    obtain ⟨x, xs, _, e, rfl⟩ := dArgs_some h
    simp [dArgs_length e]
abbrev PAD (X : Cx) (es : List Expr) (fl : List DE) : Prop := PA X es (tDs X.K (dArgs fl))
theorem pad_nil : PAD X [] [] := pa_nil.imp fun σ H Q ⟨B, δ, ds, hB, S, q, k⟩ => by
  cases q
  exact k [] H (.refl H) .nil
theorem pad_cons {f : DE} {fl : List DE} (ha : PD X e f) (hr : PAD X es fl) (hs : starEach (e :: es) X.env = (false, eval e X.env) :: starEach es X.env := by rfl) : PAD X (e :: es) (f :: fl) := (pa_cons ha hr hs).imp fun σ H Q ⟨B, δ, ds, hB, S, q, k⟩ => by
  obtain ⟨x, xs, e1, e2, rfl⟩ := dArgs_some q
  exact ⟨B, δ, x, hB, S, e1, fun v H1 s1 r1 => ⟨B, δ, xs, hB.mono s1, S.mono s1, e2, fun vs H2 s2 r2 => k (v :: vs) H2 (s1.trans s2) (.cons (r1.mono s2) r2)⟩⟩
theorem pf_list {fl : List DE} (h : PAD X es fl) (hl : fl.length ≤ 1000 := by decide) : PF X (.List es pos) (dArgs fl) := (pe_lst h).imp fun σ H Q ⟨B, δ, ds, hB, S, q, k⟩ => by
  refine ⟨B, δ, ds, hB, S, q, fun vs H1 s1 r1 => ⟨?_, fun p hp => ?_⟩⟩
  · rw [← r1.length, dArgs_length q]
    exact Nat.le_of_lt (small1000 hl)
  · exact k p vs _ (s1.trans (same_upd hp)) (s1.free hp) upd_same (r1.mono (same_upd hp))
def mkT (f : DS → Option (List D)) : DE := fun δ => (f δ).map .tup
theorem pd_tup {x1} {fl : List DE} (h : PAD X es fl) (hl : fl.length ≤ 1000 := by decide) : PD X (.Tuple es x1 pos) (mkT (dArgs fl)) := (pe_tup h).imp fun σ H Q ⟨B, δ, d, hB, S, q, k⟩ => by
  unfold mkT at q
  cases r : dArgs fl δ with
  | none => rw [r] at q; cases q
  | some ds =>
    rw [r] at q
    cases q
    refine ⟨B, δ, ds, hB, S, r, fun vs H1 s1 r1 => ⟨?_, fun p hp => ?_⟩⟩
    · rw [← r1.length, dArgs_length r]
      exact Nat.le_of_lt (small1000 hl)
    · refine k _ _ (s1.trans (same_upd hp)) ?_
      unfold Rep
      exact ⟨p, vs, rfl, SqT.of upd_same, r1.mono (same_upd hp)⟩

/-! ### xs[i], slices -/
def ixD : D → D → Option D
  | .lst ds, .int i => atI ds i
  | .tup ds, .int i => atI ds i
  | .scr ns, .int i => (atI ns i).map .int
  | _, _ => none
theorem atI_map {α β : Type} (f : α → β) (xs : List α) (i : Int) : atI (xs.map f) i = (atI xs i).map f := by
  unfold atI
  rw [List.length_map]
  cases ixN xs.length i with
  | none => rfl
  | some j => simp
theorem atI_reps {K : PySem.W.Frag} {H : Hp} {B : Addr → Prop} {ds : List D} {xs : List V} {i : Int} {d : D} (h : Reps K H B ds xs) (e : atI ds i = some d) : ∃ x, atI xs i = some x ∧ Rep K H B d x := by
  unfold atI at e ⊢
  rw [← h.length]
  cases q : ixN ds.length i with
  | none => rw [q] at e; cases e
  | some j =>
    rw [q] at e
    exact h.get e
theorem o2_ix {K : PySem.W.Frag} : Op2 K (rIx K) ixD := by
  intro H B dx dy d x y Q hB hx hy q k
  unfold ixD at q
  split at q
  · unfold Rep at hx
    obtain ⟨a, xs, rfl, _, s, r⟩ := hx
    obtain ⟨v, e, rv⟩ := atI_reps r q
    exact .inl ⟨a, xs, _, v, rfl, hy, SqL.of s, e, k v H (.refl H) rv⟩
  · unfold Rep at hx
    obtain ⟨a, xs, rfl, s, r⟩ := hx
    obtain ⟨v, e, rv⟩ := atI_reps r q
    exact .inr (.inl ⟨a, xs, _, v, rfl, hy, s, e, k v H (.refl H) rv⟩)
  · rename_i ns i
    unfold Rep at hx
    obtain ⟨a, rfl, s⟩ := hx
    cases e : atI ns i with
    | none => rw [e] at q; cases q
    | some n =>
      rw [e] at q
      cases q
      exact .inl ⟨a, _, _, .int n, rfl, hy, s.sq, by rw [atI_map, e]; rfl, k _ H (.refl H) rfl⟩
  · cases q
theorem pd_ix {f g : DE} (ha : PD X a f) (hb : PD X b g) (hs : PlainIx b := by intro _ _; rfl) : PD X (.Subscript a b pos) (d2 ixD f g) := (pe_ix ix_seq ha hb hs).imp (two_of o2_ix)

/-! ### a call of the text's own def -/
def spN (K : PySem.W.Frag) (F : List D → Option D) : Sp := fun vs H Q _ => ∃ ds d, Reps K H noB ds vs ∧ F ds = some d ∧ ∀ v H' A, Same H H' → Tree K H' d v A → A.Nodup → (∀ a ∈ A, H a = none) → Q v H'
structure DefOk (P : Program) (w : World) (K : PySem.W.Frag) (mg : Str → Option Value) (base : Heap) (k : Nat) (x : Str) (sp : Sp) : Prop where
  ok : ∃ (f : Addr) (fd : FuncData) (ps : List Str), mg x = some (.ref f) ∧ PySem.W.keepIn K (.ref f) = true ∧ Binds K fd ps [] ∧ FnOk P w K mg base CX0 k f fd ps sp
def dCall (F : List D → Option D) (fl : List DE) : DE := fun δ => (dArgs fl δ).bind F
theorem dCall_some {F : List D → Option D} {fl : List DE} {δ : DS} {d : D} (h : dCall F fl δ = some d) : ∃ ds, dArgs fl δ = some ds ∧ F ds = some d := by
  unfold dCall at h
  cases q : dArgs fl δ with
  | none => rw [q] at h; cases h
  | some ds => rw [q] at h; exact ⟨ds, rfl, h⟩
end
end L2

/-! ### E4: calls, walks and comprehensions by trees -/
namespace L2
open PySem PySem.Spec PyProof.Rows
section
variable {X : Cx} {e a b c : Expr} {es : List Expr} {pos p : Pos} {x : Str} {k : Nat} {tg iter elt : Expr}

/-! ### calls of the text's own defs -/
theorem pe_callD {sp : Sp} {t : TA} (G : DefOk X.prog X.w X.K X.mg X.base k x sp) (hr : Room k X.A) (hg : Gl X x) (ha : PA X (e :: es) t) (hdb : (x == ("__debug__" : Str)) = false := by decide)
    (he : starEach (e :: es) X.env = (false, eval e X.env) :: starEach es X.env := by rfl) (hpl : (backTo pos (starEach es X.env)).any (·.1) = false := by rfl) : PE X (.Call (.Name x p) (e :: es) [] pos) (tCall sp [] E0 t) := by
  obtain ⟨f, fd, ps, hm, hk, hb, ok⟩ := G.ok
  exact pe_call ok hr hg hm hk hb .nil pass0 ha hdb he hpl
theorem pn_callN {F : List D → Option D} {fl : List DE} (G : DefOk X.prog X.w X.K X.mg X.base k x (spN X.K F)) (hr : Room k X.A) (hg : Gl X x) (ha : PAD X (e :: es) fl) (hdb : (x == ("__debug__" : Str)) = false := by decide)
    (he : starEach (e :: es) X.env = (false, eval e X.env) :: starEach es X.env := by rfl) (hpl : (backTo pos (starEach es X.env)).any (·.1) = false := by rfl) : PN X (.Call (.Name x p) (e :: es) [] pos) (dCall F fl) :=
  (pe_callD G hr hg ha hdb he hpl).imp fun σ H Q ⟨δ, d, S, q, k⟩ => by
    obtain ⟨ds, e1, e2⟩ := dCall_some q
    refine ⟨noB, δ, ds, .no, S, e1, fun vs H1 s1 r1 => ?_⟩
    show spN X.K F (vs ++ []) H1 Q E0
    rw [List.append_nil]
    exact ⟨ds, d, r1, e2, fun v H' A s' t nd fr => k v H' A (s1.trans s') t nd fun a ha => s1.free (fr a ha)⟩

/-! ### what is walked, by trees -/
structure ItD (K : PySem.W.Frag) (J : It) (H : Hp) (B : Addr → Prop) (ds : List D) : Prop where
  go : ∀ i H', Keep K B H H' → i < ds.length → J.go i H'
  stop : ∀ i H', Keep K B H H' → ds.length ≤ i → J.stop i H'
  yld : ∀ i H' x H2, Keep K B H H' → J.yld i H' x H2 → Same H' H2 ∧ ∃ d, (i < ds.length → ds[i]? = some d) ∧ Rep K H2 B d x
/-- also where what is not there yet is not gone through -/
def ItW (K : PySem.W.Frag) (J : It) (H : Hp) (B : Addr → Prop) (ds : List D) : Prop := ∀ C : Addr → Prop, (∀ a, C a → H a = none) → ItD K J H (fun a => B a ∨ C a) ds
def tI (K : PySem.W.Frag) (f : DS → Option (List D)) : TI := fun σ H R => ∃ B δ ds, InB B H ∧ RepS K H B σ δ ∧ f δ = some ds ∧ ∀ J H', Same H H' → ItW K J H' B ds → R J H'
abbrev PID (X : Cx) (tg iter : Expr) (f : DS → Option (List D)) : Prop := PI X tg iter (tI X.K f)
theorem PI.imp {wi wi' : TI} (h : PI X tg iter wi) (w : ∀ σ H R, wi' σ H R → wi σ H R) : PI X tg iter wi' := fun pins s σ H R I q => h pins s σ H R I (w σ H R q)
/-- a list or a tuple -/
def iSeq (K : PySem.W.Frag) (tl : TE) : TI := fun σ H R => tl σ H fun x H1 => ∃ a, x = .ref a ∧ (((∃ xs, SqL K H1 a xs) ∧ R (Itl K a) H1) ∨ ((∃ xs, SqT K H1 a xs) ∧ R (Itt K a) H1))
theorem pi_seq {l : Expr} {tl : TE} (hl : PE X l tl) : PI X tg l (iSeq X.K tl) := by
  intro pins s σ H R I h
  refine thn (hl pins s σ H _ I h) fun v s1 ⟨x, H1, I1, r1, q1⟩ => ?_
  obtain ⟨a, e, q1⟩ := q1
  subst e
  cases r1
  have fp : ∀ b ∈ [s1.heap.objs.size], FpOk X pins H1 b := fun b hb => by
    have e : b = s1.heap.objs.size := by simpa using hb
    subst e
    exact I1.fpOk (Nat.le_refl _) (I1.hok.fresh (Nat.le_refl _))
  rcases q1 with ⟨⟨xs, hq⟩, q⟩ | ⟨⟨xs, hq⟩, q⟩
  · obtain ⟨its, rv, p, hz⟩ := I1.list hq
    refine wpAny_pyIter_list p.isList ?_
    exact ⟨s1.heap.objs.size, [s1.heap.objs.size], _, _, H1, rfl, I1.kept (t' := s1.toks) fun b o e => Heap.get?_push_of_some _ e, turn_list a _, ⟨_, Heap.get?_push_size _ rfl, rfl, rfl⟩, fp, q⟩
  · obtain ⟨its, rv, p, hz⟩ := I1.tuple hq
    refine wpAny_pyIter_tuple (show s1.heap.IsTuple a its.toArray from p) ?_
    exact ⟨s1.heap.objs.size, [s1.heap.objs.size], _, _, H1, rfl, I1.kept (t' := s1.toks) fun b o e => Heap.get?_push_of_some _ e, turn_tuple a _, ⟨_, Heap.get?_push_size _ rfl, rfl, rfl⟩, fp, q⟩
def seqD : D → Option (List D)
  | .lst ds => some ds
  | .tup ds => some ds
  | .scr ns => some (ns.map .int)
  | _ => none
def dSeq (f : DE) : DS → Option (List D) := fun δ => (f δ).bind seqD
theorem itd_list {K : PySem.W.Frag} {H : Hp} {B : Addr → Prop} {a : Addr} {xs : List V} {ds : List D} (n : ¬ B a) (h : H a = some (.lst xs)) (r : Reps K H B ds xs) : ItD K (Itl K a) H B ds := by
  have hl := r.length
  refine ⟨fun i H' kp hi => ?_, fun i H' kp hi => ?_, fun i H' x H2 kp y => ?_⟩
  · exact ⟨xs, xs[i], SqL.of (kp.sl a xs n h), by rw [List.getElem?_eq_getElem]⟩
  · exact ⟨xs, SqL.of (kp.sl a xs n h), by omega⟩
  · obtain ⟨e, y⟩ := y
    subst e
    have hx := y xs (SqL.of (kp.sl a xs n h))
    obtain ⟨d, e, rd⟩ := (Reps.keep kp ds r).get' hx
    exact ⟨.refl _, d, fun _ => e, rd⟩
theorem itd_tup {K : PySem.W.Frag} {H : Hp} {B : Addr → Prop} {a : Addr} {xs : List V} {ds : List D} (h : SqT K H a xs) (r : Reps K H B ds xs) : ItD K (Itt K a) H B ds := by
  have hl := r.length
  refine ⟨fun i H' kp hi => ?_, fun i H' kp hi => ?_, fun i H' x H2 kp y => ?_⟩
  · exact ⟨xs, xs[i], kp.st a xs h, by rw [List.getElem?_eq_getElem]⟩
  · exact ⟨xs, kp.st a xs h, by omega⟩
  · obtain ⟨e, y⟩ := y
    subst e
    have hx := y xs (kp.st a xs h)
    obtain ⟨d, e, rd⟩ := (Reps.keep kp ds r).get' hx
    exact ⟨.refl _, d, fun _ => e, rd⟩
theorem reps_ints {K : PySem.W.Frag} {H : Hp} {B : Addr → Prop} : ∀ ns : List Int, Reps K H B (ns.map D.int) (ns.map V.int)
  | [] => .nil
  | n :: ns => .cons rfl (reps_ints ns)
theorem itd_scr {K : PySem.W.Frag} {H : Hp} {B : Addr → Prop} {a : Addr} {ns : List Int} (h : SqF K H a (ns.map V.int)) : ItD K (Itl K a) H B (ns.map D.int) := by
  have r : ∀ H', Reps K H' B (ns.map D.int) (ns.map V.int) := fun _ => reps_ints ns
  refine ⟨fun i H' kp hi => ?_, fun i H' kp hi => ?_, fun i H' x H2 kp y => ?_⟩
  · exact ⟨ns.map V.int, (ns.map V.int)[i]'(by simpa using hi), (kp.sf a _ h).sq, by rw [List.getElem?_eq_getElem]⟩
  · exact ⟨ns.map V.int, (kp.sf a _ h).sq, by simpa using hi⟩
  · obtain ⟨e, y⟩ := y
    subst e
    have hx := y _ (kp.sf a _ h).sq
    obtain ⟨d, e, rd⟩ := (r _).get' hx
    exact ⟨.refl _, d, fun _ => e, rd⟩
theorem pi_seqD {l : Expr} {f : DE} (h : PD X l f) : PID X tg l (dSeq f) := (pi_seq h).imp fun σ H R ⟨B, δ, ds, hB, S, q, k⟩ => by
  unfold dSeq at q
  cases e : f δ with
  | none => rw [e] at q; cases q
  | some d =>
    rw [e] at q
    have q' : seqD d = some ds := q
    refine ⟨B, δ, d, hB, S, e, fun v H1 s1 r1 => ?_⟩
    unfold seqD at q'
    split at q'
    · cases q'
      unfold Rep at r1
      obtain ⟨a, xs, rfl, n, h, r⟩ := r1
      exact ⟨a, rfl, .inl ⟨⟨xs, SqL.of h⟩, k _ H1 s1 fun C hC => itd_list (fun z => z.elim n fun z => by rw [hC a z] at h; cases h) h (Reps.wide hC _ r)⟩⟩
    · cases q'
      unfold Rep at r1
      obtain ⟨a, xs, rfl, h, r⟩ := r1
      exact ⟨a, rfl, .inr ⟨⟨xs, h⟩, k _ H1 s1 fun C hC => itd_tup h (Reps.wide hC _ r)⟩⟩
    · cases q'
      unfold Rep at r1
      obtain ⟨a, rfl, h⟩ := r1
      exact ⟨a, rfl, .inl ⟨⟨_, h.sq⟩, k _ H1 s1 fun C hC => itd_scr h⟩⟩
    · cases q'
/-- lo, lo + 1, .. -/
def rngL (lo : Int) (n : Nat) : List D := (List.range n).map fun i => .int (lo + (i : Nat))
theorem rngL_get {lo : Int} {n i : Nat} (h : i < n) : (rngL lo n)[i]? = some (.int (lo + i)) := by
  unfold rngL
  rw [List.getElem?_map, List.getElem?_range h]
  rfl
theorem rngL_length (lo : Int) (n : Nat) : (rngL lo n).length = n := by unfold rngL; rw [List.length_map, List.length_range]
theorem itd_rng {K : PySem.W.Frag} {H : Hp} {B : Addr → Prop} {lo : Int} {n : Nat} : ItD K (Itr lo n) H B (rngL lo n) := by
  refine ⟨fun i H' _ hi => ?_, fun i H' _ hi => ?_, fun i H' x H2 _ y => ?_⟩
  · rw [rngL_length] at hi; exact hi
  · rw [rngL_length] at hi; exact hi
  · obtain ⟨e, y⟩ := y
    subst e y
    exact ⟨.refl _, .int (lo + i), fun h => rngL_get (by rwa [rngL_length] at h), rfl⟩
def dRng1 (f : DE) : DS → Option (List D) := fun δ => match f δ with
  | some (.int j) => if -(2 ^ 62) ≤ j ∧ j < 2 ^ 62 then some (rngL 0 j.toNat) else none
  | _ => none
def dRng2 (f g : DE) : DS → Option (List D) := fun δ => match f δ, g δ with
  | some (.int i), some (.int j) => if -(2 ^ 62) ≤ i ∧ i < 2 ^ 62 ∧ -(2 ^ 62) ≤ j ∧ j < 2 ^ 62 then some (rngL i (j - i).toNat) else none
  | _, _ => none
theorem pi_rng1 {f : DE} (hg : Gl X "range") (hm : X.mg "range" = none) (ha : PD X a f) (hs : starEach [a] X.env = [(false, eval a X.env)] := by rfl) : PID X tg (.Call (.Name "range" p) [a] [] pos) (dRng1 f) :=
  (pi_range1 hg hm (pad_cons ha pad_nil hs) hs).imp fun σ H R ⟨B, δ, ds, hB, S, q, k⟩ => by
    unfold dRng1 at q
    split at q
    · rename_i j e
      split at q
      · rename_i hj
        cases q
        have ea : dArgs [f] δ = some [.int j] := by unfold dArgs; rw [e]; rfl
        refine ⟨B, δ, [.int j], hB, S, ea, fun vs H1 s1 r1 => ?_⟩
        unfold Reps at r1
        obtain ⟨x, r, rfl, rx, rr⟩ := r1
        unfold Reps at rr
        subst rr
        exact ⟨j, by rw [show x = V.int j from rx], hj.1, hj.2, k _ H1 s1 fun C _ => itd_rng⟩
      · cases q
    · cases q

/-! ### [elt for x in iter if c] -/
def consO : Option D → List D → List D
  | some y, ys => y :: ys
  | none, ys => ys
def compL (h : D → Option (Option D)) : List D → Option (List D)
  | [] => some []
  | x :: r => (h x).bind fun o => (compL h r).bind fun ys => some (consO o ys)
theorem compL_cons {h : D → Option (Option D)} {x : D} {r ds : List D} (e : compL h (x :: r) = some ds) : ∃ o ys, h x = some o ∧ compL h r = some ys ∧ ds = consO o ys := by
  unfold compL at e
  cases q : h x with
  | none => rw [q] at e; cases e
  | some o =>
    rw [q] at e
    have e' : ((compL h r).bind fun ys => some (consO o ys)) = some ds := e
    cases q' : compL h r with
    | none => rw [q'] at e'; cases e'
    | some ys =>
      rw [q'] at e'
      exact ⟨o, ys, rfl, rfl, (Option.some.inj e').symm⟩
def dComp (fi : DS → Option (List D)) (fc : DS → Option Bool) (fe : DE) : DS → Option (List D) := fun δ => (fi δ).bind fun xs => if xs.length ≤ sizeLine then
  compL (fun x => (fc (δ ++ [some x])).bind fun k => if k = true then (fe (δ ++ [some x])).map some else some none) xs else none
def dYes : DS → Option Bool := fun _ => some true
theorem pifs_nilD {X : Cx} : PIfs X [] (tT X.K dYes) := fun pins s σ H Q I ⟨B, δ, b, hB, S, q, k⟩ => pifs_nil pins s σ H Q I (by cases q; exact k H (.refl H))

theorem RepS.snoc {K : PySem.W.Frag} {H : Hp} {B : Addr → Prop} {σ : St} {δ : DS} {d : D} {v : V} (S : RepS K H B σ δ) (r : Rep K H B d v) : RepS K H B (σ ++ [some v]) (δ ++ [some d]) := by
  refine ⟨by simp [S.len], fun i d' e => ?_⟩
  by_cases hi : i < δ.length
  · rw [List.getElem?_append_left hi] at e
    obtain ⟨w, e', r'⟩ := S.get i d' e
    exact ⟨w, by rw [List.getElem?_append_left (by rw [← S.len]; exact hi)]; exact e', r'⟩
  · by_cases hj : i = δ.length
    · subst hj
      rw [List.getElem?_append_right (Nat.le_refl _), Nat.sub_self] at e
      cases e
      refine ⟨v, ?_, r⟩
      rw [S.len, List.getElem?_append_right (Nat.le_refl _), Nat.sub_self]
      rfl
    · rw [List.getElem?_eq_none (by simp; omega)] at e
      cases e
theorem RepS.keep {K : PySem.W.Frag} {H H' : Hp} {B : Addr → Prop} {σ : St} {δ : DS} (h : RepS K H B σ δ) (kp : Keep K B H H') : RepS K H' B σ δ :=
  ⟨h.len, fun i d q => let ⟨v, a, r⟩ := h.get i d q; ⟨v, a, Rep.keep kp d r⟩⟩
theorem RepS.wide {K : PySem.W.Frag} {H : Hp} {B C : Addr → Prop} {σ : St} {δ : DS} (h : RepS K H B σ δ) (hc : ∀ a, C a → H a = none) : RepS K H (fun a => B a ∨ C a) σ δ :=
  ⟨h.len, fun i d q => let ⟨v, a, r⟩ := h.get i d q; ⟨v, a, Rep.wide hc d r⟩⟩
theorem Keep.trans {K : PySem.W.Frag} {B : Addr → Prop} {H H1 H2 : Hp} (a : Keep K B H H1) (b : Keep K B H1 H2) : Keep K B H H2 :=
  ⟨fun x xs n h => b.sl x xs n (a.sl x xs n h), fun x xs h => b.st x xs (a.st x xs h), fun x xs h => b.sf x xs (a.sf x xs h), fun x xs n h => b.sd x xs n (a.sd x xs n h), fun x xs n h => b.sx x xs n (a.sx x xs n h), fun x C dx fs n h => b.si x C dx fs n (a.si x C dx fs n h)⟩
theorem Keep.anti {K : PySem.W.Frag} {B B' : Addr → Prop} {H H1 : Hp} (a : Keep K B H H1) (h : ∀ x, B x → B' x) : Keep K B' H H1 :=
  ⟨fun x xs n q => a.sl x xs (fun z => n (h x z)) q, a.st, a.sf, fun x xs n q => a.sd x xs (fun z => n (h x z)) q, fun x xs n q => a.sx x xs (fun z => n (h x z)) q, fun x C dx fs n q => a.si x C dx fs (fun z => n (h x z)) q⟩
theorem set_snoc {w v : Option V} : ∀ {σ : St}, (σ ++ [w]).set σ.length v = σ ++ [v]
  | [] => rfl
  | x :: r => congrArg (x :: ·) (set_snoc (σ := r))

variable {N' : List Str} {sc : Scope} {ifs : List Expr} {n : Nat} {px : Pos} {fi : DS → Option (List D)} {fc : DS → Option Bool} {fe : DE}

theorem comp_ofF {σ : St} {H : Hp} {Q : VK} (hσ : σ.length = n) (hq : tF X.K (dComp fi fc fe) σ H Q) : tComp (tI X.K fi) (gName n) (tT X.K fc) (tD X.K fe) 1 σ H Q := by
  obtain ⟨B, δ, ds, hB, Sδ, q, k⟩ := hq
  unfold dComp at q
  cases e1 : fi δ with
  | none => rw [e1] at q; cases q
  | some xs =>
  rw [e1] at q
  have q1 : (if xs.length ≤ sizeLine then compL (fun x => (fc (δ ++ [some x])).bind fun k => if k = true then (fe (δ ++ [some x])).map some else some none) xs else none) = some ds := q
  split at q1
  case isFalse => cases q1
  case isTrue hsz =>
  refine ⟨B, δ, xs, hB, Sδ, e1, fun J H1 s1 itw => fun Da hD => ?_⟩
  have hD0 : H Da = none := s1.free hD
  have it := itw (fun a => a = Da) fun a ha => by rw [ha]; exact hD
  have Sw : RepS X.K H1 (fun a => B a ∨ a = Da) σ δ := (Sδ.mono s1).wide fun a ha => by rw [ha]; exact hD
  -- within the block the new list is not gone through
  refine ⟨fun i m σ' H' => m = xs.length - i ∧ i ≤ xs.length ∧ (∃ w, σ' = σ ++ [w]) ∧ Same H1 H' ∧ ∃ ys dn rs, H' Da = some (.lst ys) ∧ Reps X.K H' (fun a => B a ∨ a = Da) dn ys ∧ ds = dn ++ rs ∧ dn.length ≤ i ∧
    compL (fun x => (fc (δ ++ [some x])).bind fun k => if k = true then (fe (δ ++ [some x])).map some else some none) (xs.drop i) = some rs,
    ⟨xs.length, by simp, Nat.zero_le _, ⟨none, rfl⟩, same_upd hD, [], [], ds, upd_same, .nil, rfl, Nat.le_refl _, q1⟩, ?_⟩
  rintro i m σ' H' ⟨rfl, hi', ⟨w, rfl⟩, sm, ys, dn, rs, hys, rys, hds, hln, hrs⟩
  have kp : Keep X.K (fun a => B a ∨ a = Da) H1 H' := .same sm
  by_cases hlt : i < xs.length
  · refine .inr ⟨it.go i H' kp hlt, fun σ'' H'' => (i + 1 ≤ xs.length ∧ (∃ w, σ'' = σ ++ [w]) ∧ Same H1 H'' ∧ ∃ ys dn rs, H'' Da = some (.lst ys) ∧ Reps X.K H'' (fun a => B a ∨ a = Da) dn ys ∧ ds = dn ++ rs ∧ dn.length ≤ i + 1 ∧
      compL (fun x => (fc (δ ++ [some x])).bind fun k => if k = true then (fe (δ ++ [some x])).map some else some none) (xs.drop (i + 1)) = some rs), fun σ'' H'' h => ⟨xs.length - (i + 1), by omega, rfl, h⟩, fun xv H2 hy => ?_⟩
    obtain ⟨s2, d, hd, rd⟩ := it.yld i H' xv H2 kp hy
    have hdi := hd hlt
    have hx : xs.drop i = d :: xs.drop (i + 1) := by
      obtain ⟨hl, e⟩ := List.getElem?_eq_some_iff.mp hdi
      rw [List.drop_eq_getElem_cons hl, e]
    rw [hx] at hrs
    obtain ⟨o, rs', e2, e3, e4⟩ := compL_cons hrs
    show tT X.K fc ((σ ++ [w]).set n (some xv)) H2 _
    rw [← hσ, set_snoc]
    have hB1 : InB (fun a => B a ∨ a = Da) H2 := fun a ha => ha.elim (fun z => (((hB.mono s1).mono sm).mono s2) a z) fun z => ⟨_, s2 _ _ (z ▸ hys)⟩
    have S2 : RepS X.K H2 (fun a => B a ∨ a = Da) (σ ++ [some xv]) (δ ++ [some d]) := ((Sw.mono sm).mono s2).snoc rd
    have hl2 : ys.length < sizeLine := by
      have := rys.length
      omega
    cases ec : fc (δ ++ [some d]) with
    | none => rw [ec] at e2; cases e2
    | some kk =>
      rw [ec] at e2
      have e2' : (if kk = true then (fe (δ ++ [some d])).map some else some none) = some o := e2
      refine ⟨_, δ ++ [some d], kk, hB1, S2, ec, fun H3 s3 => ?_⟩
      cases kk with
      | false =>
        rw [if_neg Bool.false_ne_true] at e2'
        rw [if_neg Bool.false_ne_true]
        cases e2'
        exact ⟨hlt, ⟨_, rfl⟩, (sm.trans s2).trans s3, ys, dn, rs', s3 _ _ (s2 _ _ hys), (rys.mono s2).mono s3, by rw [hds, e4]; rfl, Nat.le_succ_of_le hln, e3⟩
      | true =>
        rw [if_pos rfl] at e2'
        rw [if_pos rfl]
        cases ey : fe (δ ++ [some d]) with
        | none => rw [ey] at e2'; cases e2'
        | some y =>
          rw [ey] at e2'
          cases e2'
          refine ⟨_, δ ++ [some d], y, hB1.mono s3, S2.mono s3, ey, fun yv H5 s5 r5 => ⟨ys, s5 _ _ (s3 _ _ (s2 _ _ hys)), hl2, ?_⟩⟩
          have hu : H5 Da = some (.lst ys) := s5 _ _ (s3 _ _ (s2 _ _ hys))
          refine ⟨hlt, ⟨_, rfl⟩, fun b u hb => ?_, ys ++ [yv], dn ++ [y], rs', upd_same, ?_, by rw [hds, e4, List.append_assoc]; rfl, by rw [List.length_append]; simp; omega, e3⟩
          · rw [upd_ne (ne_of_none hb hD)]
            exact s5 _ _ (s3 _ _ (s2 _ _ (sm _ _ hb)))
          · exact Reps.keep (.upd (.inr rfl) (by rw [hu]; exact trivial)) _ (((rys.mono s2).mono s3 |>.mono s5).snoc r5)
  · have e : i = xs.length := by omega
    subst e
    refine .inl ⟨it.stop _ H' kp (Nat.le_refl _), ?_⟩
    rw [List.drop_length] at hrs
    cases hrs
    rw [List.append_nil] at hds
    subst hds
    exact k Da ys H' (s1.trans sm) hD0 hys (rys.anti fun a z => .inl z)
theorem pf_comp (hc : X.calm = true) (S : CompScope X.N X.env.scope.names N' 1 sc) (hn : n = X.N.length) (hi : PID X (.Name x px) iter fi)
    (hg : ∀ s H fp pins E, PG (cxComp X N' sc s H fp pins E) (.Name x px) (gName n)) (ht : ∀ s H fp pins E, PIfs (cxComp X N' sc s H fp pins E) ifs (tT X.K fc)) (he : ∀ s H fp pins E, PE (cxComp X N' sc s H fp pins E) elt (tD X.K fe))
    (hs : ∀ x, foldedSetIterable iter X.env x = pure x := by intro _; rfl) : PF X (.ListComp elt [⟨.Name x px, iter, ifs, 0⟩] sc pos) (dComp fi fc fe) := by
  intro pins s σ H Q I hq
  exact pe_comp hc S hi ⟨hg, ht, he⟩ hs pins s σ H Q I (comp_ofF (by rw [hn, I.len]) hq)
end
end L2

/-! ### E5: statements by trees; each slot shared, owned (its lists are the def's own, and no one else's), or lent by an owned one -/
namespace L2
open PySem PySem.Spec PyProof.Rows

inductive SD where
  | sh (d : D) | ow (d : D) | bo (r : Nat) (d : D)
abbrev SS := List (Option SD)
def SD.val : SD → D
  | .sh d => d
  | .ow d => d
  | .bo _ d => d
/-- what a look may see: all; the shared alone -/
def allV (δ : SS) : DS := δ.map (Option.map SD.val)
def shO : Option SD → Option D
  | some (.sh d) => some d
  | _ => none
def shV (δ : SS) : DS := δ.map shO

structure RS (K : PySem.W.Frag) (H0 : Hp) (B0 : Addr → Prop) (H : Hp) (σ : St) (δ : SS) (R : Nat → List Addr) : Prop where
  keep : Same H0 H
  inB : InB B0 H0
  len : δ.length = σ.length
  new : ∀ r a, a ∈ R r → H0 a = none
  held : ∀ r a, a ∈ R r → ∃ o, H a = some o ∧ Mut (some o)
  disj : ∀ r s a, a ∈ R r → a ∈ R s → r = s
  sh : ∀ (i : Nat) (d : D), δ[i]? = some (some (.sh d)) → ∃ v, σ[i]? = some (some v) ∧ Rep K H (fun a => B0 a ∨ ∃ r, a ∈ R r) d v
  bo : ∀ (i r : Nat) (d : D), δ[i]? = some (some (.bo r d)) → ∃ v, σ[i]? = some (some v) ∧ Rep K H (fun a => B0 a ∨ ∃ s, s ≠ r ∧ a ∈ R s) d v
  ow : ∀ (i : Nat) (d : D), δ[i]? = some (some (.ow d)) → ∃ v, σ[i]? = some (some v) ∧ Tree K H d v (R i) ∧ (R i).Nodup
/-- what a step may do -/
structure Stp (R : Nat → List Addr) (H : Hp) (R' : Nat → List Addr) (H' : Hp) : Prop where
  keep : ∀ a o, H a = some o → (∀ r, a ∉ R r) → H' a = some o
  from' : ∀ r a, a ∈ R' r → (∃ s, a ∈ R s) ∨ H a = none
  there : ∀ a, H' a = none → H a = none
theorem Stp.refl (R : Nat → List Addr) (H : Hp) : Stp R H R H := ⟨fun _ _ h _ => h, fun r _ h => .inl ⟨r, h⟩, fun _ h => h⟩
theorem Stp.trans {R R1 R2 : Nat → List Addr} {H H1 H2 : Hp} (a : Stp R H R1 H1) (b : Stp R1 H1 R2 H2) : Stp R H R2 H2 := by
  refine ⟨fun x o h n => b.keep x o (a.keep x o h n) fun r hr => ?_, fun r x h => ?_, fun x h => a.there x (b.there x h)⟩
  · rcases a.from' r x hr with ⟨s, z⟩ | z
    · exact n s z
    · rw [h] at z; cases z
  · rcases b.from' r x h with ⟨s, z⟩ | z
    · exact a.from' s x z
    · exact .inr (a.there x z)
theorem Stp.same {R : Nat → List Addr} {H H' : Hp} (e : Same H H') : Stp R H R H' := ⟨fun a o h _ => e a o h, fun r _ h => .inl ⟨r, h⟩, fun _ h => e.free h⟩

section
variable {K : PySem.W.Frag} {H0 H H' : Hp} {B0 : Addr → Prop} {σ : St} {δ : SS} {R : Nat → List Addr}
theorem allV_get {i : Nat} {d : D} (h : (allV δ)[i]? = some (some d)) : ∃ x, δ[i]? = some (some x) ∧ x.val = d := by
  unfold allV at h
  rw [List.getElem?_map] at h
  cases e : δ[i]? with
  | none => rw [e] at h; cases h
  | some o =>
    rw [e] at h
    cases o with
    | none => cases h
    | some x => cases h; exact ⟨x, rfl, rfl⟩
theorem shV_get {i : Nat} {d : D} (h : (shV δ)[i]? = some (some d)) : δ[i]? = some (some (.sh d)) := by
  unfold shV at h
  rw [List.getElem?_map] at h
  cases e : δ[i]? with
  | none => rw [e] at h; cases h
  | some o =>
    rw [e] at h
    have h' : shO o = some d := Option.some.inj h
    unfold shO at h'
    split at h'
    · cases h'; rfl
    · cases h'
theorem RS.all (h : RS K H0 B0 H σ δ R) : RepS K H noB σ (allV δ) := by
  refine ⟨by unfold allV; rw [List.length_map]; exact h.len, fun i d e => ?_⟩
  obtain ⟨x, e', rfl⟩ := allV_get e
  cases x with
  | sh d =>
    obtain ⟨v, e1, r⟩ := h.sh i d e'
    exact ⟨v, e1, r.anti fun _ z => z.elim⟩
  | bo r d =>
    obtain ⟨v, e1, r⟩ := h.bo i r d e'
    exact ⟨v, e1, r.anti fun _ z => z.elim⟩
  | ow d =>
    obtain ⟨v, e1, t, _⟩ := h.ow i d e'
    exact ⟨v, e1, t.rep d fun _ _ z => z.elim⟩
theorem RS.shr (h : RS K H0 B0 H σ δ R) : RepS K H (fun a => B0 a ∨ ∃ r, a ∈ R r) σ (shV δ) := by
  refine ⟨by unfold shV; rw [List.length_map]; exact h.len, fun i d e => h.sh i d (shV_get e)⟩
theorem RS.inAll (h : RS K H0 B0 H σ δ R) : InB (fun a => B0 a ∨ ∃ r, a ∈ R r) H := fun a ha => by
  rcases ha with z | ⟨r, z⟩
  · exact (h.inB.mono h.keep) a z
  · obtain ⟨o, e, _⟩ := h.held r a z
    exact ⟨o, e⟩
theorem RS.mono (h : RS K H0 B0 H σ δ R) (e : Same H H') : RS K H0 B0 H' σ δ R := by
  refine ⟨h.keep.trans e, h.inB, h.len, h.new, fun r a z => ?_, h.disj, fun i d z => ?_, fun i r d z => ?_, fun i d z => ?_⟩
  · obtain ⟨o, e1, m⟩ := h.held r a z
    exact ⟨o, e a o e1, m⟩
  · obtain ⟨v, e1, r⟩ := h.sh i d z
    exact ⟨v, e1, r.mono e⟩
  · obtain ⟨v, e1, r⟩ := h.bo i r d z
    exact ⟨v, e1, r.mono e⟩
  · obtain ⟨v, e1, t, nd⟩ := h.ow i d z
    exact ⟨v, e1, t.mono e, nd⟩
/-- a slot is given something shared -/
theorem RS.setSh {i : Nat} {d : D} {v : V} (h : RS K H0 B0 H σ δ R) (r : Rep K H (fun a => B0 a ∨ ∃ r, a ∈ R r) d v) : RS K H0 B0 H (σ.set i (some v)) (δ.set i (some (.sh d))) R := by
  have gs : ∀ {α : Type} {l : List (Option α)} {i j : Nat} {x : Option α} {y : α}, (l.set i x)[j]? = some (some y) → (j = i ∧ x = some y) ∨ (j ≠ i ∧ l[j]? = some (some y)) := fun {α l i j x y} e => by
    by_cases hj : j = i
    · subst hj
      rw [List.getElem?_set] at e
      simp only [if_true] at e
      split at e
      · exact .inl ⟨rfl, Option.some.inj e⟩
      · cases e
    · rw [List.getElem?_set_ne (Ne.symm hj)] at e
      exact .inr ⟨hj, e⟩
  have up : ∀ {j : Nat} {w : V}, j ≠ i → σ[j]? = some (some w) → (σ.set i (some v))[j]? = some (some w) := fun hj e => by rw [List.getElem?_set_ne (Ne.symm hj)]; exact e
  refine ⟨h.keep, h.inB, by simp [h.len], h.new, h.held, h.disj, fun j d' z => ?_, fun j r' d' z => ?_, fun j d' z => ?_⟩
  · rcases gs z with ⟨rfl, q⟩ | ⟨hj, q⟩
    · cases q
      have hl : j < σ.length := by
        rw [← h.len]
        by_cases hl : j < δ.length
        · exact hl
        · rw [List.getElem?_eq_none (by simp; omega)] at z; cases z
      exact ⟨v, by rw [List.getElem?_set]; simp [hl], r⟩
    · obtain ⟨w, e1, r⟩ := h.sh j d' q
      exact ⟨w, up hj e1, r⟩
  · rcases gs z with ⟨rfl, q⟩ | ⟨hj, q⟩
    · cases q
    · obtain ⟨w, e1, r⟩ := h.bo j r' d' q
      exact ⟨w, up hj e1, r⟩
  · rcases gs z with ⟨rfl, q⟩ | ⟨hj, q⟩
    · cases q
    · obtain ⟨w, e1, t⟩ := h.ow j d' q
      exact ⟨w, up hj e1, t⟩
def setR (R : Nat → List Addr) (i : Nat) (A : List Addr) : Nat → List Addr := fun r => if r = i then A else R r
theorem setR_same {i : Nat} {A : List Addr} : setR R i A i = A := if_pos rfl
theorem setR_ne {i r : Nat} {A : List Addr} (h : r ≠ i) : setR R i A r = R r := if_neg h
theorem get_set {α : Type} {l : List (Option α)} {i j : Nat} {x : Option α} {y : α} (e : (l.set i x)[j]? = some (some y)) : (j = i ∧ x = some y ∧ i < l.length) ∨ (j ≠ i ∧ l[j]? = some (some y)) := by
  by_cases hj : j = i
  · subst hj
    rw [List.getElem?_set] at e
    simp only [if_true] at e
    split at e
    · rename_i hl
      exact .inl ⟨rfl, Option.some.inj e, hl⟩
    · cases e
  · rw [List.getElem?_set_ne (Ne.symm hj)] at e
    exact .inr ⟨hj, e⟩
/-- a slot is given a tree all new since Hold -/
theorem RS.setOw {Hold : Hp} {i : Nat} {d : D} {v : V} {A : List Addr} (h : RS K H0 B0 Hold σ δ R) (e : Same Hold H) (t : Tree K H d v A) (nd : A.Nodup) (fr : ∀ a ∈ A, Hold a = none) : RS K H0 B0 H (σ.set i (some v)) (δ.set i (some (.ow d))) (setR R i A) := by
  have hm := h.mono e
  have up : ∀ {j : Nat} {w : V}, j ≠ i → σ[j]? = some (some w) → (σ.set i (some v))[j]? = some (some w) := fun hj e => by rw [List.getElem?_set_ne (Ne.symm hj)]; exact e
  have hA : ∀ r a, a ∈ R r → a ∉ A := fun r a z z' => by
    obtain ⟨o, q, _⟩ := h.held r a z
    rw [fr a z'] at q; cases q
  have mem : ∀ r a, a ∈ setR R i A r → (r = i ∧ a ∈ A) ∨ (r ≠ i ∧ a ∈ R r) := fun r a z => by
    by_cases hr : r = i
    · subst hr; rw [setR_same] at z; exact .inl ⟨rfl, z⟩
    · rw [setR_ne hr] at z; exact .inr ⟨hr, z⟩
  refine ⟨hm.keep, h.inB, by simp [h.len], fun r a z => ?_, fun r a z => ?_, fun r s a z z' => ?_, fun j d' z => ?_, fun j r' d' z => ?_, fun j d' z => ?_⟩
  · rcases mem r a z with ⟨_, z⟩ | ⟨_, z⟩
    · exact h.keep.free (fr a z)
    · exact h.new r a z
  · rcases mem r a z with ⟨_, z⟩ | ⟨_, z⟩
    · exact t.held d a z
    · exact hm.held r a z
  · rcases mem r a z with ⟨h1, z⟩ | ⟨h1, z⟩ <;> rcases mem s a z' with ⟨h2, z'⟩ | ⟨h2, z'⟩
    · rw [h1, h2]
    · exact absurd z (hA s a z')
    · exact absurd z' (hA r a z)
    · exact h.disj r s a z z'
  · rcases get_set z with ⟨rfl, q, _⟩ | ⟨hj, q⟩
    · cases q
    · obtain ⟨w, e1, r⟩ := h.sh j d' q
      refine ⟨w, up hj e1, Rep.anti ?_ d' ((Rep.wide (C := fun a => a ∈ A) fr d' r).mono e)⟩
      rintro a (z | ⟨r, z⟩)
      · exact .inl (.inl z)
      · rcases mem r a z with ⟨_, z⟩ | ⟨_, z⟩
        · exact .inr z
        · exact .inl (.inr ⟨r, z⟩)
  · rcases get_set z with ⟨rfl, q, _⟩ | ⟨hj, q⟩
    · cases q
    · obtain ⟨w, e1, r⟩ := h.bo j r' d' q
      refine ⟨w, up hj e1, Rep.anti ?_ d' ((Rep.wide (C := fun a => a ∈ A) fr d' r).mono e)⟩
      rintro a (z | ⟨s, hs, z⟩)
      · exact .inl (.inl z)
      · rcases mem s a z with ⟨_, z⟩ | ⟨_, z⟩
        · exact .inr z
        · exact .inl (.inr ⟨s, hs, z⟩)
  · rcases get_set z with ⟨rfl, q, hl⟩ | ⟨hj, q⟩
    · cases q
      rw [setR_same]
      exact ⟨v, by rw [List.getElem?_set]; simp [← h.len, hl], t, nd⟩
    · obtain ⟨w, e1, t'⟩ := hm.ow j d' q
      rw [setR_ne hj]
      exact ⟨w, up hj e1, t'⟩
/-- an owned slot becomes shared -/
def frzS (i : Nat) (δ : SS) : SS := match δ[i]? with
  | some (some (.ow d)) => δ.set i (some (.sh d))
  | _ => δ
theorem RS.frz (i : Nat) (h : RS K H0 B0 H σ δ R) : ∃ R', RS K H0 B0 H σ (frzS i δ) R' ∧ ∀ r a, a ∈ R' r → a ∈ R r := by
  unfold frzS
  split
  · rename_i d e
    obtain ⟨v, e1, t, nd⟩ := h.ow i d e
    refine ⟨setR R i [], ?_, fun r a z => ?_⟩
    · have mem : ∀ r a, a ∈ setR R i [] r → r ≠ i ∧ a ∈ R r := fun r a z => by
        by_cases hr : r = i
        · subst hr; rw [setR_same] at z; cases z
        · rw [setR_ne hr] at z; exact ⟨hr, z⟩
      refine ⟨h.keep, h.inB, by simp [h.len], fun r a z => h.new r a (mem r a z).2, fun r a z => h.held r a (mem r a z).2, fun r s a z z' => h.disj r s a (mem r a z).2 (mem s a z').2, fun j d' z => ?_, fun j r' d' z => ?_, fun j d' z => ?_⟩
      · rcases get_set z with ⟨rfl, q, hl⟩ | ⟨hj, q⟩
        · cases q
          refine ⟨v, e1, t.rep d fun a ha => ?_⟩
          rintro (z | ⟨r, z⟩)
          · obtain ⟨o, q⟩ := h.inB a z
            rw [h.new j a ha] at q; cases q
          · exact (mem r a z).1 (h.disj r j a (mem r a z).2 ha)
        · obtain ⟨w, e2, r⟩ := h.sh j d' q
          exact ⟨w, e2, r.anti fun a z => z.imp id fun ⟨r, z⟩ => ⟨r, (mem r a z).2⟩⟩
      · rcases get_set z with ⟨rfl, q, _⟩ | ⟨hj, q⟩
        · cases q
        · obtain ⟨w, e2, r⟩ := h.bo j r' d' q
          exact ⟨w, e2, r.anti fun a z => z.imp id fun ⟨s, hs, z⟩ => ⟨s, hs, (mem s a z).2⟩⟩
      · rcases get_set z with ⟨rfl, q, _⟩ | ⟨hj, q⟩
        · cases q
        · rw [setR_ne hj]
          exact h.ow j d' q
    · by_cases hr : r = i
      · subst hr; rw [setR_same] at z; cases z
      · rw [setR_ne hr] at z; exact z
  · exact ⟨R, h, fun _ _ z => z⟩
end

/-! ### what comes of a statement -/
inductive Out where
  | nx (δ : SS) | bk (δ : SS) | ct (δ : SS) | rt (d : D) | rb (d : D) (δ : SS) | ex (c : Nat) (δ : SS)
/-- what is wanted of an exception: its class, the slots and the heap where it was raised -/
abbrev XR := Nat → St → Hp → Prop
abbrev noX : XR := fun _ _ _ => False
def Ret (K : PySem.W.Frag) (H0 : Hp) (B0 : Addr → Prop) (fr : Bool) (H : Hp) (d : D) (v : V) : Prop :=
  Same H0 H ∧ (fr = true → ∃ A, Tree K H d v A ∧ A.Nodup ∧ ∀ a ∈ A, H0 a = none) ∧ (fr = false → Rep K H B0 d v)
def Aft (K : PySem.W.Frag) (H0 : Hp) (B0 : Addr → Prop) (fr : Bool) (RX : XR) (R : Nat → List Addr) (H : Hp) (D : Ends) : Out → Prop
  | .nx δ' => ∀ σ' H' R', RS K H0 B0 H' σ' δ' R' → Stp R H R' H' → D.nx σ' H'
  | .bk δ' => ∀ σ' H' R', RS K H0 B0 H' σ' δ' R' → Stp R H R' H' → D.bk σ' H'
  | .ct δ' => ∀ σ' H' R', RS K H0 B0 H' σ' δ' R' → Stp R H R' H' → D.ct σ' H'
  | .rt d => ∀ v H', Ret K H0 B0 fr H' d v → (∀ a, H' a = none → H a = none) → D.rt v H'
  | .rb d δ' => ∀ v σ' H' R' A2, RS K H0 B0 H' σ' δ' R' → Stp R H R' H' → Tree K H' d v A2 → A2.Nodup → (∀ a ∈ A2, H0 a = none ∧ ∀ r, a ∉ R' r) → D.rt v H'
  | .ex c δ' => ∀ σ' H' R', RS K H0 B0 H' σ' δ' R' → Stp R H R' H' → RX c σ' H'
def tS (K : PySem.W.Frag) (H0 : Hp) (B0 : Addr → Prop) (fr : Bool) (RX : XR) (g : SS → Option Out) : TS := fun D σ H => ∃ δ R o, RS K H0 B0 H σ δ R ∧ g δ = some o ∧ Aft K H0 B0 fr RX R H D o
theorem Aft.back {K : PySem.W.Frag} {H0 : Hp} {B0 : Addr → Prop} {fr : Bool} {RX : XR} {R R1 : Nat → List Addr} {H H1 : Hp} {D : Ends} {o : Out} (h : Aft K H0 B0 fr RX R H D o) (s : Stp R H R1 H1) : Aft K H0 B0 fr RX R1 H1 D o := by
  cases o with
  | nx δ' => exact fun σ' H' R' r t => h σ' H' R' r (s.trans t)
  | bk δ' => exact fun σ' H' R' r t => h σ' H' R' r (s.trans t)
  | ct δ' => exact fun σ' H' R' r t => h σ' H' R' r (s.trans t)
  | rt d => exact fun v H' r t => h v H' r fun a z => s.there a (t a z)
  | rb d δ' => exact fun v σ' H' R' A2 r t => h v σ' H' R' A2 r (s.trans t)
  | ex c δ' => exact fun σ' H' R' r t => h σ' H' R' r (s.trans t)
theorem PS.imp {X : Cx} {st : Stmt} {t t' : TS} (h : PS X st t) (w : ∀ D σ H, t' D σ H → t D σ H) : PS X st t' := fun pins s σ H D I q => h pins s σ H D I (w D σ H q)
theorem PSs.imp {X : Cx} {st : List Stmt} {t t' : TS} (h : PSs X st t) (w : ∀ D σ H, t' D σ H → t D σ H) : PSs X st t' := fun pins s σ H D I q => h pins s σ H D I (w D σ H q)

section
variable {X : Cx} {H0 : Hp} {B0 : Addr → Prop} {fr : Bool} {RX : XR} {st : Stmt} {sts : List Stmt} {e : Expr} {pos : Pos}
def seqO (g h : SS → Option Out) : SS → Option Out := fun δ => (g δ).bind fun o => match o with
  | .nx δ' => h δ'
  | o => some o
def skipO : SS → Option Out := fun δ => some (.nx δ)
theorem ss_nil : PSs X [] (tS X.K H0 B0 fr RX skipO) := pss_nil.imp fun D σ H ⟨δ, R, o, rs, q, k⟩ => by
  cases q
  exact k σ H R rs (.refl R H)
theorem ss_cons {g h : SS → Option Out} (h1 : PS X st (tS X.K H0 B0 fr RX g)) (h2 : PSs X sts (tS X.K H0 B0 fr RX h)) : PSs X (st :: sts) (tS X.K H0 B0 fr RX (seqO g h)) := (pss_cons h1 h2).imp fun D σ H ⟨δ, R, o, rs, q, k⟩ => by
  unfold seqO at q
  cases e : g δ with
  | none => rw [e] at q; cases q
  | some o1 =>
    rw [e] at q
    refine ⟨δ, R, o1, rs, e, ?_⟩
    cases o1 with
    | nx δ' =>
      have q' : h δ' = some o := q
      exact fun σ' H' R' rs' s' => ⟨δ', R', o, rs', q', k.back s'⟩
    | bk δ' => cases q; exact k
    | ct δ' => cases q; exact k
    | rt d => cases q; exact k
    | rb d δ' => cases q; exact k
    | ex c δ' => cases q; exact k
theorem ss_one {g : SS → Option Out} (h1 : PS X st (tS X.K H0 B0 fr RX g)) : PSs X [st] (tS X.K H0 B0 fr RX g) := pss_one h1

/-! ### name = e -/
abbrev PAsg (X : Cx) (st : Stmt) (i : Nat) (te : TE) : Prop := PS X st (tAsg te (gName i))
theorem PAsg.imp {i : Nat} {t t' : TE} (h : PAsg X st i t) (w : ∀ σ H Q, t' σ H Q → t σ H Q) : PAsg X st i t' := PS.imp h fun D σ H q => w σ H _ q
theorem pas_e {i : Nat} {x : Str} {te : TE} {pos' : Pos} (hN : X.N.Nodup) (hi : X.N[i]? = some x) (hx : Loc X.env.scope x) (he : PE X e te) (hs : swapsWith e (some (.Name x pos')) pos.line X.env = pure false := by rfl) (hf : X.fn x = true ∨ X.env.scope.names.lookup x = some .local := by first | exact .inl rfl | exact .inr rfl | assumption) :
    PAsg X (.Assign [.Name x pos'] e pos) i te := ps_set hN hi hx he hs hf
def asgS (i : Nat) (f : DE) : SS → Option Out := fun δ => (f (shV δ)).map fun d => .nx (δ.set i (some (.sh d)))
def asgI (i : Nat) (f : DE) : SS → Option Out := fun δ => (f (allV δ)).bind fun d => if d.imm = true then some (.nx (δ.set i (some (.sh d)))) else none
def asgN (i : Nat) (f : DE) : SS → Option Out := fun δ => (f (allV δ)).map fun d => .nx (δ.set i (some (.ow d)))
theorem s_asgS {i : Nat} {f : DE} (h : PAsg X st i (tD X.K f)) : PS X st (tS X.K H0 B0 fr RX (asgS i f)) := PS.imp h fun D σ H ⟨δ, R, o, rs, q, k⟩ => by
  unfold asgS at q
  cases e : f (shV δ) with
  | none => rw [e] at q; cases q
  | some d =>
    rw [e] at q
    cases q
    exact ⟨_, shV δ, d, rs.inAll, rs.shr, e, fun v H' s r => k _ H' R ((rs.mono s).setSh r) (.same s)⟩
theorem s_asgI {i : Nat} {f : DE} (h : PAsg X st i (tD X.K f)) : PS X st (tS X.K H0 B0 fr RX (asgI i f)) := PS.imp h fun D σ H ⟨δ, R, o, rs, q, k⟩ => by
  unfold asgI at q
  cases e : f (allV δ) with
  | none => rw [e] at q; cases q
  | some d =>
    rw [e] at q
    have q' : (if d.imm = true then some (Out.nx (δ.set i (some (.sh d)))) else none) = some o := q
    split at q'
    · rename_i hi
      cases q'
      exact ⟨noB, allV δ, d, .no, rs.all, e, fun v H' s r => k _ H' R ((rs.mono s).setSh (r.imm d hi)) (.same s)⟩
    · cases q'
theorem s_asgN {i : Nat} {f : DE} (h : PAsg X st i (tN X.K f)) : PS X st (tS X.K H0 B0 fr RX (asgN i f)) := PS.imp h fun D σ H ⟨δ, R, o, rs, q, k⟩ => by
  unfold asgN at q
  cases e : f (allV δ) with
  | none => rw [e] at q; cases q
  | some d =>
    rw [e] at q
    cases q
    refine ⟨allV δ, d, rs.all, e, fun v H' A s t nd fr' => k _ H' (setR R i A) (rs.setOw s t nd fr') ⟨fun a o h _ => s a o h, fun r a z => ?_, fun a z => s.free z⟩⟩
    by_cases hr : r = i
    · subst hr; rw [setR_same] at z; exact .inr (fr' a z)
    · rw [setR_ne hr] at z; exact .inl ⟨r, z⟩

/-! ### return -/
def retI (f : DE) : SS → Option Out := fun δ => (f (allV δ)).bind fun d => if d.imm = true then some (.rt d) else none
def retN (f : DE) : SS → Option Out := fun δ => (f (allV δ)).map .rt
def retS (f : DE) : SS → Option Out := fun δ => (f (shV δ)).map .rt
def retO (i : Nat) : SS → Option Out := fun δ => match δ[i]? with
  | some (some (.ow d)) => some (.rt d)
  | _ => none
theorem s_retI {f : DE} (h : PD X e f) : PS X (.Return (some e) pos) (tS X.K H0 B0 fr RX (retI f)) := PS.imp (ps_ret h) fun D σ H ⟨δ, R, o, rs, q, k⟩ => by
  unfold retI at q
  cases e : f (allV δ) with
  | none => rw [e] at q; cases q
  | some d =>
    rw [e] at q
    have q' : (if d.imm = true then some (Out.rt d) else none) = some o := q
    split at q'
    · rename_i hi
      cases q'
      exact ⟨noB, allV δ, d, .no, rs.all, e, fun v H' s r => k v H' ⟨rs.keep.trans s, fun _ => ⟨[], r.immTree d hi, List.nodup_nil, (fun a z => nomatch z)⟩, fun _ => r.imm d hi⟩ fun a z => s.free z⟩
    · cases q'

/-! ### if, break, continue, pass -/
def ifO (c : DS → Option Bool) (g h : SS → Option Out) : SS → Option Out := fun δ => (c (allV δ)).bind fun b => if b = true then g δ else h δ
theorem s_if {c : Expr} {a b : List Stmt} {f : DS → Option Bool} {g h : SS → Option Out} (hc : PTD X c f) (ha : PSs X a (tS X.K H0 B0 fr RX g)) (hb : PSs X b (tS X.K H0 B0 fr RX h)) : PS X (.If c a b pos) (tS X.K H0 B0 fr RX (ifO f g h)) := PS.imp (ps_if hc ha hb) fun D σ H ⟨δ, R, o, rs, q, k⟩ => by
  unfold ifO at q
  cases e : f (allV δ) with
  | none => rw [e] at q; cases q
  | some b =>
    rw [e] at q
    have q' : (if b = true then g δ else h δ) = some o := q
    refine ⟨noB, allV δ, b, .no, rs.all, e, fun H' s => ?_⟩
    cases b with
    | true =>
      rw [if_pos rfl] at q'
      refine iteT ?_
      exact ⟨δ, R, o, rs.mono s, q', k.back (.same s)⟩
    | false =>
      rw [if_neg Bool.false_ne_true] at q'
      refine iteF ?_
      exact ⟨δ, R, o, rs.mono s, q', k.back (.same s)⟩
def bkO : SS → Option Out := fun δ => some (.bk δ)
def ctO : SS → Option Out := fun δ => some (.ct δ)
/-- ahead of a statement an owned slot may become shared -/
def frzO (i : Nat) (g : SS → Option Out) : SS → Option Out := fun δ => g (frzS i δ)

/-! ### for x in .. : over what is shared -/
def forD (i : Nat) (b : SS → Option Out) : List D → SS → Option Out
  | [], δ => some (.nx δ)
  | x :: r, δ => (b (δ.set i (some (.sh x)))).bind fun o => match o with
    | .nx δ' => forD i b r δ'
    | .ct δ' => forD i b r δ'
    | .bk δ' => some (.nx δ')
    | .rt d => some (.rt d)
    | .rb d δ' => some (.rb d δ')
    | .ex c δ' => some (.ex c δ')
def forO (i : Nat) (f : DS → Option (List D)) (b : SS → Option Out) : SS → Option Out := fun δ => (f (shV δ)).bind fun ds => forD i b ds δ
theorem Stp.keepB {K : PySem.W.Frag} {R R' : Nat → List Addr} {H H' : Hp} {B : Addr → Prop} (s : Stp R H R' H') (hR : ∀ r a, a ∈ R r → B a) (hm : ∀ r a, a ∈ R r → ∃ o, H a = some o ∧ Mut (some o)) : Keep K B H H' := by
  have kp : ∀ a o, H a = some o → ¬ Mut (some o) → H' a = some o := fun a o e n => s.keep a o e fun r z => by
    obtain ⟨o', e', m⟩ := hm r a z
    rw [e] at e'; cases e'
    exact n m
  refine ⟨fun a xs n h => s.keep a _ h fun r z => n (hR r a z), fun a xs h => ?_, fun a xs h => ?_, fun a kvs n h => s.keep a _ h fun r z => n (hR r a z), fun a φ n h => s.keep a _ h fun r z => n (hR r a z), fun a _ _ _ n h => s.keep a _ h fun r z => n (hR r a z)⟩
  · rcases h with (h | ⟨o, h⟩) | h
    · exact .inl (.inl (kp a _ h fun z => z))
    · exact .inl (.inr ⟨o, kp a _ h fun z => z⟩)
    · exact .inr h
  · rcases h with ⟨o, h⟩ | h
    · exact .inl ⟨o, kp a _ h fun z => z⟩
    · exact .inr h
theorem s_for {i : Nat} {x : Str} {px : Pos} {iter : Expr} {body : List Stmt} {f : DS → Option (List D)} {g : SS → Option Out} (hp : PassesOwn (model X.prog X.w) X.A X.env X.xe) (hc : X.calm = true) (hi : PID X (.Name x px) iter f) (hg : PG X (.Name x px) (gName i)) (hb : PSs X body (tS X.K H0 B0 fr RX g))
    (hs : ∀ x, foldedSetIterable iter X.env x = pure x := by intro _; rfl) : PS X (.For (.Name x px) iter body [] pos) (tS X.K H0 B0 fr RX (forO i f g)) := PS.imp (ps_for hp hc hi hg hb hs) fun D σ H ⟨δ, R, o, rs, q, k⟩ => by
  unfold forO at q
  cases e : f (shV δ) with
  | none => rw [e] at q; cases q
  | some ds =>
  rw [e] at q
  have q : forD i g ds δ = some o := q
  refine ⟨_, shV δ, ds, rs.inAll, rs.shr, e, fun J H1 s1 itw => ?_⟩
  have rs1 := rs.mono s1
  have it := itw (fun a => H1 a = none) fun a z => z
  refine ⟨fun n m σ' H' => m = ds.length - n ∧ n ≤ ds.length ∧ ∃ δ' R', RS X.K H0 B0 H' σ' δ' R' ∧ Stp R H1 R' H' ∧ forD i g (ds.drop n) δ' = some o, ⟨ds.length, by simp, Nat.zero_le _, δ, R, rs1, .refl R H1, q⟩, ?_⟩
  rintro n m σ' H' ⟨rfl, hn, δ', R', rs', s', q'⟩
  have kp : Keep X.K (fun a => (B0 a ∨ ∃ r, a ∈ R r) ∨ H1 a = none) H1 H' := s'.keepB (fun r a z => .inl (.inr ⟨r, z⟩)) rs1.held
  by_cases hlt : n < ds.length
  · have hx : ds.drop n = ds[n] :: ds.drop (n + 1) := List.drop_eq_getElem_cons hlt
    rw [hx] at q'
    unfold forD at q'
    cases eb : g (δ'.set i (some (.sh ds[n]))) with
    | none => rw [eb] at q'; cases q'
    | some ob =>
      rw [eb] at q'
      refine .inr ⟨it.go n H' kp hlt, fun σ2 H2 => n + 1 ≤ ds.length ∧ ∃ δ2 R2, RS X.K H0 B0 H2 σ2 δ2 R2 ∧ Stp R H1 R2 H2 ∧ forD i g (ds.drop (n + 1)) δ2 = some o, fun σ2 H2 z => ⟨ds.length - (n + 1), by omega, rfl, z⟩, fun xv H2 hy => ?_⟩
      obtain ⟨s2, d, hd, rd⟩ := it.yld n H' xv H2 kp hy
      have hdi : d = ds[n] := by
        have := hd hlt
        rw [List.getElem?_eq_getElem hlt] at this
        exact (Option.some.inj this).symm
      subst hdi
      -- the item is shared
      have rd' : Rep X.K H2 (fun a => B0 a ∨ ∃ r, a ∈ R' r) ds[n] xv := rd.anti fun a z => by
        rcases z with z | ⟨r, z⟩
        · exact .inl (.inl z)
        · rcases s'.from' r a z with z | z
          · exact .inl (.inr z)
          · exact .inr z
      have rs2 := (rs'.mono s2).setSh (i := i) rd'
      have st2 : Stp R H1 R' H2 := s'.trans (.same s2)
      refine ⟨_, R', ob, rs2, eb, ?_⟩
      cases ob with
      | nx δ2 =>
        have q2 : forD i g (ds.drop (n + 1)) δ2 = some o := q'
        exact fun σ3 H3 R3 rs3 s3 => ⟨hlt, δ2, R3, rs3, st2.trans s3, q2⟩
      | ct δ2 =>
        have q2 : forD i g (ds.drop (n + 1)) δ2 = some o := q'
        exact fun σ3 H3 R3 rs3 s3 => ⟨hlt, δ2, R3, rs3, st2.trans s3, q2⟩
      | bk δ2 =>
        cases q'
        exact fun σ3 H3 R3 rs3 s3 => k σ3 H3 R3 rs3 ((Stp.same s1).trans (st2.trans s3))
      | rt d =>
        cases q'
        exact k.back ((Stp.same s1).trans st2)
      | rb d δ2 =>
        cases q'
        exact k.back ((Stp.same s1).trans st2)
      | ex c δ2 =>
        cases q'
        exact k.back ((Stp.same s1).trans st2)
  · have en : n = ds.length := by omega
    subst en
    rw [List.drop_length] at q'
    cases q'
    exact .inl ⟨it.stop _ H' kp (Nat.le_refl _), k σ' H' R' rs' ((Stp.same s1).trans s')⟩
end

/-! ### a def's body -/
def runD (np nl : Nat) (g : SS → Option Out) : List D → Option D := fun ds => if ds.length = np then (match g (ds.map (fun d => some (.sh d)) ++ List.replicate nl none) with
  | some (.rt d) => some d
  | some (.nx _) => some .non
  | _ => none) else none
theorem runD_len {np nl : Nat} {g : SS → Option Out} {ds : List D} {d : D} (h : runD np nl g ds = some d) : ds.length = np := by
  unfold runD at h
  split at h
  · assumption
  · cases h
theorem rs_start {K : PySem.W.Frag} {H : Hp} {B : Addr → Prop} {ds : List D} {vs : List V} {N : List Str} {nl : Nat} (hB : InB B H) (r : Reps K H B ds vs) (hN : N.length = ds.length + nl) :
    RS K H B H (start N vs) (ds.map (fun d => some (.sh d)) ++ List.replicate nl none) (fun _ => []) := by
  have hl := r.length
  have get : ∀ {i : Nat} {x : SD}, (ds.map (fun d => some (SD.sh d)) ++ List.replicate nl none)[i]? = some (some x) → ∃ d, ds[i]? = some d ∧ x = .sh d := fun {i x} e => by
    by_cases hi : i < ds.length
    · rw [List.getElem?_append_left (by simpa using hi), List.getElem?_map, List.getElem?_eq_getElem hi] at e
      cases e
      exact ⟨ds[i], List.getElem?_eq_getElem hi, rfl⟩
    · rw [List.getElem?_append_right (by simpa using hi), List.getElem?_replicate] at e
      split at e <;> cases e
  refine ⟨.refl H, hB, ?_, (fun _ _ z => nomatch z), (fun _ _ z => nomatch z), (fun _ _ _ z => nomatch z), fun i d e => ?_, fun i r d e => ?_, fun i d e => ?_⟩
  · unfold start
    simp
    omega
  · obtain ⟨d', e1, e2⟩ := get e
    cases e2
    obtain ⟨v, e3, rv⟩ := r.get e1
    refine ⟨v, ?_, rv.anti fun a z => z.elim id (fun ⟨_, z⟩ => nomatch z)⟩
    unfold start
    have hi : i < vs.length := (List.getElem?_eq_some_iff.mp e3).1
    rw [List.getElem?_append_left (by simpa using hi), List.getElem?_map, e3]
    rfl
  · obtain ⟨d', _, e2⟩ := get e
    cases e2
  · obtain ⟨d', _, e2⟩ := get e
    cases e2
section
variable {P : Program} {w : World} {K : PySem.W.Frag} {mg : Str → Option Value} {base : Heap}
/-- a def whose trees are all new -/
theorem fnN {x qual : Str} {st : Stmt} {f : Addr} {fd : FuncData} {N ps : List Str} {k np nl : Nat} {g : SS → Option Out} (F : Fun K x qual st f fd) (S : FnScope N ps (defScope st)) (hnp : ps.length = np) (hN : N.length = np + nl)
    (hbody : ∀ (cdv : Value) (A : Around) (outer : List Env) (s : Shared) (H : Hp) (E : XK), Room k (A.deeper (envOfC qual (defScope st) s.heap.objs.size f cdv)) →
      PSs (cxOf CX0 P w K mg base N qual (defScope st) f cdv A outer s H E).nox (defBody st) (tS K H noB true noX g)) : FnOk P w K mg base CX0 (k + 1) f fd ps (spN K (runD np nl g)) := by
  refine F.ok S (fun vs H Q E h => ?_) fun cdv A outer s H vs Q E hr h => ?_
  · obtain ⟨ds, d, r, e, _⟩ := h
    rw [← r.length, runD_len e, hnp]
  · obtain ⟨ds, d, r, e, kk⟩ := h
    refine ⟨_, hbody cdv A outer s H E hr, ?_⟩
    have hl := runD_len e
    unfold runD at e
    rw [if_pos hl] at e
    have rs := rs_start (nl := nl) .no r (N := N) (by omega)
    split at e
    · rename_i d' eg
      cases e
      exact ⟨_, _, _, rs, eg, fun v H' z _ => by
        obtain ⟨A', t, nd, fr⟩ := z.2.1 rfl
        exact kk v H' A' z.1 t nd fr⟩
    · rename_i δ' eg
      cases e
      exact ⟨_, _, _, rs, eg, fun σ' H' R' rs' _ => kk .non H' [] rs'.keep ⟨rfl, rfl⟩ List.nodup_nil (fun a z => nomatch z)⟩
    · cases e
theorem defN {x qual : Str} {st : Stmt} {f : Addr} {fd : FuncData} {N ps : List Str} {k np nl : Nat} {g : SS → Option Out} (F : Fun K x qual st f fd) (hm : mg x = some (.ref f)) (hb : Binds K fd ps []) (S : FnScope N ps (defScope st)) (hnp : ps.length = np) (hN : N.length = np + nl)
    (hbody : ∀ (cdv : Value) (A : Around) (outer : List Env) (s : Shared) (H : Hp) (E : XK), Room k (A.deeper (envOfC qual (defScope st) s.heap.objs.size f cdv)) →
      PSs (cxOf CX0 P w K mg base N qual (defScope st) f cdv A outer s H E).nox (defBody st) (tS K H noB true noX g)) : DefOk P w K mg base (k + 1) x (spN K (runD np nl g)) :=
  ⟨f, fd, ps, hm, F.kp, hb, fnN F S hnp hN hbody⟩
end
end L2

/-! ### E6: Python's own functions and operators by trees -/
namespace L2
open PySem PySem.Spec PyProof.Rows PySem.SeqAt

mutual
def toP : D → PyData
  | .non => .none
  | .bl b => .bool b
  | .int i => .int i
  | .str x => .str x
  | .lst ds => .list (toPs ds)
  | .tup ds => .tuple (toPs ds)
  | .scr ns => .list (ns.map .int)
  | .dct _ _ => .dict []
  | .exc _ => .dict []
  | .obj _ _ _ _ => .dict []
  | .cel _ _ => .dict []
def toPs : List D → List PyData
  | [] => []
  | d :: ds => toP d :: toPs ds
end
theorem ints_reads {h : Heap} : ∀ (ns : List Int) {us : List Value}, Vals (ns.map V.int) us → ∃ as, ReadsAll h us (ns.map .int) as
  | [], _, .nil => ⟨_, .nil⟩
  | n :: ns, _, .cons r t => by
    obtain ⟨tk, rfl⟩ := r
    obtain ⟨as, ra⟩ := ints_reads (h := h) ns t
    exact ⟨_, .cons (.int n tk) ra⟩
section
variable {X : Cx} {pins : List (Addr × Obj)} {σ : St} {H : Hp} {s : Shared} {B : Addr → Prop}
mutual
theorem rep_reads (I : Inv X pins σ H s) : ∀ (d : D) {v : V} {u : Value}, (toP d).canLay0 = true → Rep X.K H B d v → RelV v u → ∃ as, Reads s.heap u (toP d) as
  | .non, _, _, _, h, r => by cases h; cases r; exact ⟨_, .none⟩
  | .bl b, _, _, _, h, r => by cases h; cases r; exact ⟨_, .bool b⟩
  | .int i, _, _, _, h, r => by cases h; obtain ⟨t, rfl⟩ := r; exact ⟨_, .int i t⟩
  | .str x, _, _, _, h, r => by cases h; obtain ⟨t, rfl⟩ := r; exact ⟨_, .str x t⟩
  | .lst ds, _, _, hc, h, r => by
    unfold Rep at h
    obtain ⟨a, xs, rfl, _, hq, rs⟩ := h
    cases r
    obtain ⟨its, rv, ⟨o, n, e, c, _, dt⟩, _⟩ := I.list (SqL.of hq)
    have hc' : PyData.canLayAll0 (toPs ds) = true := by unfold toP PyData.canLay0 at hc; exact hc
    obtain ⟨as, ra⟩ := reps_reads I ds hc' rs rv
    unfold toP
    exact ⟨_, .list e c dt (by simpa using ra)⟩
  | .tup ds, _, _, hc, h, r => by
    unfold Rep at h
    obtain ⟨a, xs, rfl, hq, rs⟩ := h
    cases r
    obtain ⟨its, rv, ⟨o, e, c, n, dt⟩, _⟩ := I.tuple hq
    have hc' : PyData.canLayAll0 (toPs ds) = true := by unfold toP PyData.canLay0 at hc; exact hc
    obtain ⟨as, ra⟩ := reps_reads I ds hc' rs rv
    unfold toP
    exact ⟨_, .tuple e c dt (by simpa using ra)⟩
  | .scr ns, _, _, hc, h, r => by
    unfold Rep at h
    obtain ⟨a, rfl, hq⟩ := h
    cases r
    obtain ⟨its, rv, ⟨o, n, e, c, _, dt⟩, _⟩ := I.list hq.sq
    unfold toP
    obtain ⟨as, ra⟩ := ints_reads (h := s.heap) ns rv
    exact ⟨_, .list e c dt (by simpa using ra)⟩
  | .dct _ _, _, _, hc, _, _ => by unfold toP PyData.canLay0 at hc; cases hc
  | .exc _, _, _, hc, _, _ => by unfold toP PyData.canLay0 at hc; cases hc
  | .obj _ _ _ _, _, _, hc, _, _ => by unfold toP PyData.canLay0 at hc; cases hc
  | .cel _ _, _, _, hc, _, _ => by unfold toP PyData.canLay0 at hc; cases hc
theorem reps_reads (I : Inv X pins σ H s) : ∀ (ds : List D) {xs : List V} {us : List Value}, PyData.canLayAll0 (toPs ds) = true → Reps X.K H B ds xs → Vals xs us → ∃ as, ReadsAll s.heap us (toPs ds) as
  | [], _, _, _, h, r => by
    unfold Reps at h
    subst h
    cases r
    exact ⟨_, .nil⟩
  | d :: ds, _, _, hc, h, r => by
    unfold Reps at h
    obtain ⟨x, rr, rfl, h1, h2⟩ := h
    unfold toPs PyData.canLayAll0 at hc
    rw [Bool.and_eq_true] at hc
    cases r with
    | cons r1 r2 =>
      obtain ⟨as, ra⟩ := rep_reads I d hc.1 h1 r1
      obtain ⟨bs, rb⟩ := reps_reads I ds hc.2 h2 r2
      unfold toPs
      exact ⟨_, .cons ra rb⟩
end
end
/-- what may be compared -/
def okP (d : D) : Bool := (toP d).canLay0 && decide ((toP d).depth ≤ 60)
def eqD (x y : D) : Option D := if (okP x && okP y) = true then some (.bl (PyData.eqv (toP x) (toP y))) else none
def neD (x y : D) : Option D := if (okP x && okP y) = true then some (.bl (!PyData.eqv (toP x) (toP y))) else none
def memD (x : D) : D → Option Bool
  | .lst ds => if (okP x && okP (.lst ds)) = true then some (ds.any fun y => PyData.eqv (toP y) (toP x)) else none
  | .tup ds => if (okP x && okP (.tup ds)) = true then some (ds.any fun y => PyData.eqv (toP y) (toP x)) else none
  | _ => none
def inD (x y : D) : Option D := (memD x y).map .bl
def ninD (x y : D) : Option D := (memD x y).map fun b => .bl (!b)
def rEqD (K : PySem.W.Frag) : R2 := fun x y H Q => ∃ B dx dy, Rep K H B dx x ∧ Rep K H B dy y ∧ okP dx = true ∧ okP dy = true ∧ Q (.bl (PyData.eqv (toP dx) (toP dy))) H
def rNeD (K : PySem.W.Frag) : R2 := fun x y H Q => ∃ B dx dy, Rep K H B dx x ∧ Rep K H B dy y ∧ okP dx = true ∧ okP dy = true ∧ Q (.bl (!PyData.eqv (toP dx) (toP dy))) H
theorem okP_get {d : D} (h : okP d = true) : (toP d).canLay0 = true ∧ (toP d).depth ≤ 60 := by
  unfold okP at h
  rw [Bool.and_eq_true, decide_eq_true_eq] at h
  exact h
section
variable {X : Cx}
theorem op_eqD (hu : X.A.units + 64 < cLine) : OpR X (compareOp .Eq) (rEqD X.K) := by
  intro pins s σ H x y v u Q I rx ry h
  obtain ⟨B, dx, dy, r1, r2, o1, o2, q⟩ := h
  obtain ⟨as, ra⟩ := rep_reads I dx (okP_get o1).1 r1 rx
  obtain ⟨bs, rb⟩ := rep_reads I dy (okP_get o2).1 r2 ry
  exact compareEq_reads ra rb (okP_get o1).1 (okP_get o2).1 (by have := (okP_get o1).2; omega) ⟨.bl _, H, I, rfl, q⟩
theorem op_neD (hu : X.A.units + 64 < cLine) : OpR X (compareOp .NotEq) (rNeD X.K) := by
  intro pins s σ H x y v u Q I rx ry h
  obtain ⟨B, dx, dy, r1, r2, o1, o2, q⟩ := h
  obtain ⟨as, ra⟩ := rep_reads I dx (okP_get o1).1 r1 rx
  obtain ⟨bs, rb⟩ := rep_reads I dy (okP_get o2).1 r2 ry
  exact compareNe_reads ra rb (okP_get o1).1 (okP_get o2).1 (by have := (okP_get o1).2; omega) ⟨.bl _, H, I, rfl, q⟩
theorem o2_eq {K : PySem.W.Frag} : Op2 K (rEqD K) eqD := by
  intro H B dx dy d x y Q hB hx hy q k
  unfold eqD at q
  split at q
  · rename_i h
    rw [Bool.and_eq_true] at h
    cases q
    exact ⟨B, dx, dy, hx, hy, h.1, h.2, k _ H (.refl H) rfl⟩
  · cases q
theorem o2_ne {K : PySem.W.Frag} : Op2 K (rNeD K) neD := by
  intro H B dx dy d x y Q hB hx hy q k
  unfold neD at q
  split at q
  · rename_i h
    rw [Bool.and_eq_true] at h
    cases q
    exact ⟨B, dx, dy, hx, hy, h.1, h.2, k _ H (.refl H) rfl⟩
  · cases q
theorem toPs_any (p : PyData → Bool) : ∀ ds : List D, (toPs ds).any p = ds.any fun y => p (toP y)
  | [] => rfl
  | d :: ds => by unfold toPs; rw [List.any_cons, List.any_cons, toPs_any p ds]
def rInD (K : PySem.W.Frag) (neg : Bool) : R2 := fun x y H Q => ∃ B dx dy b, Rep K H B dx x ∧ Rep K H B dy y ∧ memD dx dy = some b ∧ Q (.bl (if neg then !b else b)) H
theorem op_inD (hu : X.A.units + 64 < cLine) : OpR X (compareOp .In) (rInD X.K false) := by
  intro pins s σ H x y v u Q I rx ry h
  obtain ⟨B, dx, dy, b, r1, r2, o, q⟩ := h
  unfold memD at o
  split at o
  · split at o
    · rename_i ds h
      rw [Bool.and_eq_true] at h
      cases o
      obtain ⟨as, ra⟩ := rep_reads I dx (okP_get h.1).1 r1 rx
      obtain ⟨bs, rb⟩ := rep_reads I _ (okP_get h.2).1 r2 ry
      have hc := (okP_get h.2).1
      unfold toP at rb hc
      unfold PyData.canLay0 at hc
      refine in_list_reads rb ra hc (okP_get h.1).1 (by have := (okP_get h.1).2; omega) ?_
      rw [toPs_any]
      exact ⟨.bl _, H, I, rfl, q⟩
    · cases o
  · split at o
    · rename_i ds h
      rw [Bool.and_eq_true] at h
      cases o
      obtain ⟨as, ra⟩ := rep_reads I dx (okP_get h.1).1 r1 rx
      obtain ⟨bs, rb⟩ := rep_reads I _ (okP_get h.2).1 r2 ry
      have hc := (okP_get h.2).1
      unfold toP at rb hc
      unfold PyData.canLay0 at hc
      refine in_tuple_reads rb ra hc (okP_get h.1).1 (by have := (okP_get h.1).2; omega) ?_
      rw [toPs_any]
      exact ⟨.bl _, H, I, rfl, q⟩
    · cases o
  · cases o
theorem op_ninD (hu : X.A.units + 64 < cLine) : OpR X (compareOp .NotIn) (rInD X.K true) := by
  intro pins s σ H x y v u Q I rx ry h
  obtain ⟨B, dx, dy, b, r1, r2, o, q⟩ := h
  unfold memD at o
  split at o
  · split at o
    · rename_i ds h
      rw [Bool.and_eq_true] at h
      cases o
      obtain ⟨as, ra⟩ := rep_reads I dx (okP_get h.1).1 r1 rx
      obtain ⟨bs, rb⟩ := rep_reads I _ (okP_get h.2).1 r2 ry
      have hc := (okP_get h.2).1
      unfold toP at rb hc
      unfold PyData.canLay0 at hc
      refine notIn_list_reads rb ra hc (okP_get h.1).1 (by have := (okP_get h.1).2; omega) ?_
      rw [toPs_any]
      exact ⟨.bl _, H, I, rfl, q⟩
    · cases o
  · split at o
    · rename_i ds h
      rw [Bool.and_eq_true] at h
      cases o
      obtain ⟨as, ra⟩ := rep_reads I dx (okP_get h.1).1 r1 rx
      obtain ⟨bs, rb⟩ := rep_reads I _ (okP_get h.2).1 r2 ry
      have hc := (okP_get h.2).1
      unfold toP at rb hc
      unfold PyData.canLay0 at hc
      refine notIn_tuple_reads rb ra hc (okP_get h.1).1 (by have := (okP_get h.1).2; omega) ?_
      rw [toPs_any]
      exact ⟨.bl _, H, I, rfl, q⟩
    · cases o
  · cases o
theorem o2_in {K : PySem.W.Frag} : Op2 K (rInD K false) inD := by
  intro H B dx dy d x y Q hB hx hy q k
  unfold inD at q
  cases e : memD dx dy with
  | none => rw [e] at q; cases q
  | some b =>
    rw [e] at q
    cases q
    exact ⟨B, dx, dy, b, hx, hy, e, k _ H (.refl H) rfl⟩
theorem o2_nin {K : PySem.W.Frag} : Op2 K (rInD K true) ninD := by
  intro H B dx dy d x y Q hB hx hy q k
  unfold ninD at q
  cases e : memD dx dy with
  | none => rw [e] at q; cases q
  | some b =>
    rw [e] at q
    cases q
    exact ⟨B, dx, dy, b, hx, hy, e, k _ H (.refl H) rfl⟩

/-! ### built-in functions -/
def OpA (K : PySem.W.Frag) (r : List V → Hp → VK → Prop) (F : List D → Option D) : Prop := ∀ (H : Hp) (B : Addr → Prop) (ds : List D) (d : D) (vs : List V) (Q : VK), InB B H → Reps K H B ds vs → F ds = some d → (∀ v H', Same H H' → Rep K H' B d v → Q v H') → r vs H Q
def dCallL (F : List D → Option (List D)) (fl : List DE) : DS → Option (List D) := fun δ => (dArgs fl δ).bind F
variable {x : Str} {bid T : String} {r : List V → Hp → VK → Prop} {e : Expr} {es : List Expr} {p pos : Pos} {fl : List DE}
theorem callA {F : List D → Option D} (ho : OpA X.K r F) (σ : St) (H : Hp) (Q : VK) (h : tD X.K (dCall F fl) σ H Q) : tCB r (tDs X.K (dArgs fl)) σ H Q := by
  obtain ⟨B, δ, d, hB, S, q, k⟩ := h
  obtain ⟨ds, e1, e2⟩ := dCall_some q
  exact ⟨B, δ, ds, hB, S, e1, fun vs H1 s1 r1 => ho H1 B ds d vs Q (hB.mono s1) r1 e2 fun v H' s' rv => k v H' (s1.trans s') rv⟩
theorem pd_callB {F : List D → Option D} (hc : CallR X (.builtin bid) r) (hD : OpA X.K r F) (hg : Gl X x) (hm : X.mg x = none) (hv : bootBuiltins x = some (.builtin bid)) (ha : PAD X (e :: es) fl) (hn : x ≠ "__name__" := by decide) (hdb : (x == ("__debug__" : Str)) = false := by decide)
    (he : starEach (e :: es) X.env = (false, eval e X.env) :: starEach es X.env := by rfl) (hpl : (backTo pos (starEach es X.env)).any (·.1) = false := by rfl) : PD X (.Call (.Name x p) (e :: es) [] pos) (dCall F fl) :=
  (pe_callB hc hg hm hv ha hn hdb he hpl).imp (callA hD)
theorem pd_callT {F : List D → Option D} (hc : CallR X (.type T) r) (hD : OpA X.K r F) (hg : Gl X x) (hm : X.mg x = none) (hv : bootBuiltins x = some (.type T)) (ha : PAD X (e :: es) fl) (hn : x ≠ "__name__" := by decide) (hdb : (x == ("__debug__" : Str)) = false := by decide)
    (he : starEach (e :: es) X.env = (false, eval e X.env) :: starEach es X.env := by rfl) (hpl : (backTo pos (starEach es X.env)).any (·.1) = false := by rfl) : PD X (.Call (.Name x p) (e :: es) [] pos) (dCall F fl) :=
  (pe_callTy hc hg hm hv ha hn hdb he hpl).imp (callA hD)
theorem reps1 {K : PySem.W.Frag} {H : Hp} {B : Addr → Prop} {d : D} {vs : List V} (h : Reps K H B [d] vs) : ∃ v, vs = [v] ∧ Rep K H B d v := by
  unfold Reps at h
  obtain ⟨x, r, rfl, h1, h2⟩ := h
  unfold Reps at h2
  subst h2
  exact ⟨x, rfl, h1⟩
/-- len -/
def lenF : List D → Option D
  | [.lst ds] => some (.int ds.length)
  | [.tup ds] => some (.int ds.length)
  | [.scr ns] => some (.int ns.length)
  | _ => none
theorem oa_len {K : PySem.W.Frag} : OpA K (fun xs H Q => ∃ x n, xs = [x] ∧ LenV K x H n ∧ Q (.int n) H) lenF := by
  intro H B ds d vs Q hB hr q k
  unfold lenF at q
  split at q
  · cases q
    obtain ⟨v, rfl, r⟩ := reps1 hr
    unfold Rep at r
    obtain ⟨a, xs, rfl, _, h, rs⟩ := r
    refine ⟨.ref a, xs.length, rfl, .inl ⟨xs, SqL.of h, rfl⟩, k _ H (.refl H) ?_⟩
    show V.int _ = V.int _
    rw [rs.length]
  · cases q
    obtain ⟨v, rfl, r⟩ := reps1 hr
    unfold Rep at r
    obtain ⟨a, xs, rfl, h, rs⟩ := r
    refine ⟨.ref a, xs.length, rfl, .inr ⟨xs, h, rfl⟩, k _ H (.refl H) ?_⟩
    show V.int _ = V.int _
    rw [rs.length]
  · cases q
    obtain ⟨v, rfl, r⟩ := reps1 hr
    unfold Rep at r
    obtain ⟨a, rfl, h⟩ := r
    exact ⟨.ref a, _, rfl, .inl ⟨_, h.sq, (List.length_map ..).symm⟩, k _ H (.refl H) rfl⟩
  · cases q
theorem pd_len {f : DE} (hg : Gl X "len") (hm : X.mg "len" = none) (h : PD X e f) (he : starEach [e] X.env = [(false, eval e X.env)] := by rfl) : PD X (.Call (.Name "len" p) [e] [] pos) (dCall lenF [f]) :=
  pd_callB call_len oa_len hg hm PySem.boot_len (pad_cons h pad_nil he) (by decide) (by decide) he rfl
/-- all, any, sum of a list -/
def bools : List D → Option (List Bool)
  | [] => some []
  | .bl b :: r => (bools r).map (b :: ·)
  | _ => none
def ints' : List D → Option (List Int)
  | [] => some []
  | .int i :: r => (ints' r).map (i :: ·)
  | _ => none
theorem bools_vals {K : PySem.W.Frag} {H : Hp} {B : Addr → Prop} : ∀ {ds : List D} {bs : List Bool} {xs : List V}, bools ds = some bs → Reps K H B ds xs → xs = bs.map V.bl
  | [], _, _, e, h => by cases e; unfold Reps at h; exact h
  | .bl b :: r, bs, xs, e, h => by
    unfold bools at e
    cases q : bools r with
    | none => rw [q] at e; cases e
    | some cs =>
      rw [q] at e
      cases e
      unfold Reps at h
      obtain ⟨x, r', rfl, h1, h2⟩ := h
      rw [bools_vals q h2, show x = V.bl b from h1]
      rfl
  | .non :: _, _, _, e, _ => nomatch e
  | .int _ :: _, _, _, e, _ => nomatch e
  | .str _ :: _, _, _, e, _ => nomatch e
  | .lst _ :: _, _, _, e, _ => nomatch e
  | .tup _ :: _, _, _, e, _ => nomatch e
  | .dct _ _ :: _, _, _, e, _ => nomatch e
  | .exc _ :: _, _, _, e, _ => nomatch e
  | .obj _ _ _ _ :: _, _, _, e, _ => nomatch e
  | .cel _ _ :: _, _, _, e, _ => nomatch e
  | .scr _ :: _, _, _, e, _ => nomatch e
theorem boolsAre : ∀ {bs : List Bool} {us : List Value}, Vals (bs.map V.bl) us → PyProof.Rows.LSm.BoolsAre us bs
  | [], _, .nil => .nil
  | b :: bs, _, .cons r t => by
    cases r
    exact .cons b (boolsAre t)
theorem call_allL (hc : X.calm = true) : CallR X (.builtin "all") (fun xs H Q => ∃ (p : Addr) (bs : List Bool), xs = [.ref p] ∧ SqL X.K H p (bs.map V.bl) ∧ Q (.bl (bs.all (fun b => b))) H) := by
  intro pins s σ H xs us Q I r h
  obtain ⟨p, bs, rfl, hq, q⟩ := h
  obtain ⟨u, rfl, ru⟩ := vals1 r
  cases ru
  obtain ⟨its, rv, pl, hz⟩ := I.list hq
  have hl := pl.isList
  have hb := boolsAre rv
  have hlt : p < s.heap.objs.size := by obtain ⟨_, e, _⟩ := hl; exact Heap.lt_size e
  refine call_all_walk (wpAny_pyIter_list hl ?_)
  refine ⟨s.heap.objs.size, [s.heap.objs.size, p], [s.heap.objs.size], its.toArray.size, _, _, fun i => (bs[i]?).getD true, rfl, Walks.list (A := X.A.in1) (I.ok.hd hc) _ p (Nat.ne_of_lt hlt) its.toArray,
    ⟨⟨_, Heap.get?_push_size _ rfl, rfl, rfl⟩, hl.push _⟩, fun i v s' Q' E' hP hQ => ?_, fun h' tk hk => ?_⟩
  · obtain ⟨b, e, rfl⟩ := hb.get i v (by simpa using hP)
    simp only [e, Option.getD_some] at hQ
    exact wpAny_truthy_bool hQ
  · have e : ((List.range its.toArray.size).all fun i => (bs[i]?).getD true) = bs.all (fun b => b) := by
      rw [List.size_toArray, hb.length]; exact LSm.range_all bs
    rw [e]
    exact ⟨.bl _, H, I.kept (LSm.kept_iter hk), rfl, q⟩
def allF : List D → Option D
  | [.lst ds] => (bools ds).map fun bs => .bl (bs.all (fun b => b))
  | _ => none
theorem oa_all {K : PySem.W.Frag} : OpA K (fun xs H Q => ∃ (p : Addr) (bs : List Bool), xs = [.ref p] ∧ SqL K H p (bs.map V.bl) ∧ Q (.bl (bs.all (fun b => b))) H) allF := by
  intro H B ds d vs Q hB hr q k
  unfold allF at q
  split at q
  · rename_i es
    cases e : bools es with
    | none => rw [e] at q; cases q
    | some bs =>
      rw [e] at q
      cases q
      obtain ⟨v, rfl, r⟩ := reps1 hr
      unfold Rep at r
      obtain ⟨a, xs, rfl, _, h, rs⟩ := r
      rw [bools_vals e rs] at h
      exact ⟨a, bs, rfl, SqL.of h, k _ H (.refl H) rfl⟩
  · cases q
theorem pd_all {f : DE} (hc : X.calm = true) (hg : Gl X "all") (hm : X.mg "all" = none) (h : PD X e f) (he : starEach [e] X.env = [(false, eval e X.env)] := by rfl) : PD X (.Call (.Name "all" p) [e] [] pos) (dCall allF [f]) :=
  pd_callB (call_allL hc) oa_all hg hm PyProof.Rows.Boot.«all» (pad_cons h pad_nil he) (by decide) (by decide) he rfl
/-- list(x) of a list or a tuple -/
def listF : List D → Option (List D)
  | [.lst ds] => some ds
  | [.tup ds] => some ds
  | [.scr ns] => some (ns.map .int)
  | _ => none
/-- tuple(x) -/
def tupF : List D → Option D
  | [.lst ds] => some (.tup ds)
  | [.tup ds] => some (.tup ds)
  | _ => none
theorem oa_tup {K : PySem.W.Frag} : OpA K (fun xs H Q => ∃ p ys, xs = [.ref p] ∧ ((SqL K H p ys ∧ ∀ l, H l = none → Q (.ref l) (upd H l (.tup ys))) ∨ (SqT K H p ys ∧ Q (.ref p) H))) tupF := by
  intro H B ds d vs Q hB hr q k
  unfold tupF at q
  split at q
  · cases q
    obtain ⟨v, rfl, r⟩ := reps1 hr
    unfold Rep at r
    obtain ⟨a, xs, rfl, _, h, rs⟩ := r
    exact ⟨a, xs, rfl, .inl ⟨SqL.of h, fun l hl => k _ _ (same_upd hl) (by unfold Rep; exact ⟨l, xs, rfl, SqT.of upd_same, rs.mono (same_upd hl)⟩)⟩⟩
  · cases q
    obtain ⟨v, rfl, r⟩ := reps1 hr
    have r0 := r
    unfold Rep at r
    obtain ⟨a, xs, rfl, h, rs⟩ := r
    exact ⟨a, xs, rfl, .inr ⟨h, k _ _ (.refl H) r0⟩⟩
  · cases q
theorem pd_tupOf {f : DE} (hg : Gl X "tuple") (hm : X.mg "tuple" = none) (h : PD X e f) (he : starEach [e] X.env = [(false, eval e X.env)] := by rfl) : PD X (.Call (.Name "tuple" p) [e] [] pos) (dCall tupF [f]) :=
  pd_callT call_tuple_of oa_tup hg hm PyProof.Rows.Boot.«tuple» (pad_cons h pad_nil he) (by decide) (by decide) he rfl
end
end L2

/-! ### E7: isinstance; lists that are owned, changed -/
namespace L2
open PySem PySem.Spec PyProof.Rows

def tyN : D → String
  | .non => "NoneType"
  | .bl _ => "bool"
  | .int _ => "int"
  | .str _ => "str"
  | .lst _ => "list"
  | .tup _ => "tuple"
  | .scr _ => "list"
  | .dct _ _ => "dict"
  | .exc _ => "object"
  | .obj _ _ _ _ => "object"
  | .cel _ _ => "list"
/-- isinstance(x, T) for these T -/
inductive IsT : String → Prop where
  | bool : IsT "bool" | int : IsT "int" | str : IsT "str" | list : IsT "list" | tuple : IsT "tuple" | dict : IsT "dict"
def isF (T : String) (d : D) : Bool := tyN d == T || (tyN d == "bool" && T == "int")
theorem kit_tt (K : PySem.W.Frag) {T : String} (h : IsT T) (d : D) (hd : ∀ x, d ≠ .exc x) (hd2 : ∀ x a ks ds, d ≠ .obj x a ks ds) : PySem.W.kitOne K (.type (tyN d)) (.type T) = some (isF T d) := by
  cases h <;> cases d <;> first | kernel_rfl | exact absurd rfl (hd _) | exact absurd rfl (hd2 _ _ _ _)
section
variable {prog : Program} {w : World} {A : Around} {E : Value → Shared → Prop} {K : PySem.W.Frag} {x D : Addr} {ox : Obj} {s : Shared}
/-- the class of an exception of the program's own, by its name __class__ -/
theorem exc_class {Q : Option Value → Shared → Prop} (X : K.In s.heap) (I : PySem.W.InstAt s.heap x ox D none) (hga : PySem.W.findIn K (.ref D) "__getattribute__" = some (some (.builtin "BaseException.__getattribute__"))) (hgh : PySem.W.findIn K (.ref D) "__getattr__" = some none)
    (hf : PySem.W.findObj K D none "__class__" = some (.bind (.builtin "getset_descriptor.__get__") (.builtin "object.__class__"))) (hm : PySem.W.mroIn K D (.type "object") = some true) (hb : PySem.W.mroIn K D (.type "BaseException") = some true)
    (h : Q (some (.ref D)) { s with toks := s.toks + 1 }) : wpAny (model prog w) A (getAttr? (.ref x) "__class__") Q E s := by
  obtain ⟨hp, gs, dr, tk, os⟩ := s
  have T0 := I.type (M := model prog w)
  have T1 := PySem.W.looks_findIn (M := model prog w) X hga
  have T2 := PySem.W.looks_findIn (M := model prog w) X hgh
  have T3 := PySem.W.looks_find (M := model prog w) X I hf
  have T4 := PySem.W.looks_mroIn (M := model prog w) X hb
  have hne : (onTheHeap (Value.ref D) && Value.builtin "BaseException.__getattribute__" == Value.builtin "object.__getattribute__") = false := by
    have z : (Value.builtin "BaseException.__getattribute__" == Value.builtin "object.__getattribute__") = false := by decide +kernel
    rw [z, Bool.and_false]
  unfold getAttr? getAttrBy?
  refine wpAny_bind (wpAny_mkText ?_)
  refine wpAny_bind (wpAny_attempt ?_)
  unfold getAttrBy
  refine wpAny_holding (wpAny_bind (T0.at ?_))
  refine wpAny_bind (T1.at ?_)
  dsimp only
  rw [hne, if_neg Bool.false_ne_true]
  unfold getAttrByItsOwn hookBefore
  rw [if_pos (show onTheHeap (Value.ref D) = true from rfl)]
  refine wpAny_bind (T2.at ?_)
  refine wpAny_bind (wpAny_attempt (wpAny_holding ?_))
  unfold callGetattribute boundAndCalled
  rw [Bool.false_and, if_neg Bool.false_ne_true, F.excAttr_ValueError.ga.bind]
  refine wpAny_bind (wpAny_pure ?_)
  refine wpAny_call (codeAny_call_builtin F.excAttr_ValueError.ga.plain F.entry_bexc_ga ?_)
  have k1 : builtinKind "BaseException.__getattribute__" = some .slot := by decide +kernel
  have k2 : splitId "BaseException.__getattribute__" = some ("BaseException", "__getattribute__") := by decide +kernel
  simp only [checkBuiltinCall, k1, k2]
  have ha := F.args_bexc_ga (.ref x) (.str "__class__" tk)
  have TI : PySem.W.Looks (model prog w) hp (isInstance (.ref x) (.type "BaseException")) true := T0.andThen T4
  show wpAny _ _ (isInstance (.ref x) (.type "BaseException") >>= _) _ _ _
  refine wpAny_bind (TI.at ?_)
  rw [if_neg (by decide)]
  unfold argsOk at ha
  refine wpAny_of_eq (a := ()) ha ?_
  unfold Builtin.«object.__getattribute__»
  refine wpAny_bind (wpAny_of_eq (a := (Value.ref x, [Value.str "__class__" tk])) rfl ?_)
  dsimp only
  refine wpAny_bind (wpAny_of_eq (a := ("__class__" : Str)) rfl ?_)
  refine wpAny_bind (T0.at ?_)
  refine wpAny_bind (T3.at ?_)
  show wpAny _ _ (holding [Value.builtin "object.__class__"] (call (.builtin "getset_descriptor.__get__") [.builtin "object.__class__", .ref x, .ref D]) >>= ret) _ _ _
  refine wpAny_bind (wpAny_holding (wpAny_call (PySem.W.class_get X I hm ?_)))
  refine wpAny_pure ?_
  exact PySem.W.handed_on rfl (wpAny_pure h)
end
theorem xcls_of {K : PySem.W.Frag} {C : Addr} (h : xclsB K C = true) : PySem.W.findIn K (.ref C) "__getattribute__" = some (some (.builtin "BaseException.__getattribute__")) ∧ PySem.W.findIn K (.ref C) "__getattr__" = some none ∧ PySem.W.mroIn K C (.type "BaseException") = some true ∧ (PySem.W.clsIn K C).isSome = true ∧
    PySem.W.findIn K (.ref C) "__class__" = some (some (.builtin "object.__class__")) ∧ PySem.W.specialIn K (.builtin "object.__class__") "__get__" = some (some (.builtin "getset_descriptor.__get__")) ∧ PySem.W.takesIn K (.builtin "object.__class__") = some true ∧ PySem.W.mroIn K C (.type "object") = some true := by
  unfold xclsB at h
  simp only [Bool.and_eq_true, beq_iff_eq] at h
  exact ⟨h.1.1.1.1.1.1.1.1, h.1.1.1.1.1.1.1.2, h.1.1.1.1.1.1.2, h.1.1.1.1.1.2, h.1.1.1.1.2, h.1.1.1.2, h.1.1.2, h.1.2⟩
theorem icls_of {K : PySem.W.Frag} {C : Addr} {ks : List Str} (h : iclsB K C ks = true) : Cls K C ∧ PySem.W.findIn K (.ref C) "__class__" = some (some (.builtin "object.__class__")) ∧ PySem.W.specialIn K (.builtin "object.__class__") "__get__" = some (some (.builtin "getset_descriptor.__get__")) ∧ PySem.W.takesIn K (.builtin "object.__class__") = some true ∧ PySem.W.mroIn K C (.type "object") = some true ∧
    (["bool", "int", "str", "list", "tuple", "dict"].all fun T => PySem.W.kitOne K (.ref C) (.type T) == some false) = true ∧ ∀ f ∈ ks, NoAttr K C f := by
  unfold iclsB at h
  rw [Bool.and_eq_true_iff, Bool.and_eq_true_iff, Bool.and_eq_true_iff, Bool.and_eq_true_iff, Bool.and_eq_true_iff, Bool.and_eq_true_iff, Bool.and_eq_true_iff, Bool.and_eq_true_iff, Bool.and_eq_true_iff] at h
  obtain ⟨⟨⟨⟨⟨⟨⟨⟨⟨a1, a2⟩, a3⟩, a4⟩, a5⟩, a6⟩, a7⟩, a8⟩, a9⟩, a10⟩ := h
  rw [List.all_eq_true] at a10
  exact ⟨⟨a1, a2, a3, beq_iff_eq.mp a4⟩, beq_iff_eq.mp a5, beq_iff_eq.mp a6, beq_iff_eq.mp a7, beq_iff_eq.mp a8, a9, fun f hf => beq_iff_eq.mp (a10 f hf)⟩
/-- an exception answers isinstance by its class -/
theorem kitx_exc {K : PySem.W.Frag} {x C : Addr} {ox : Obj} (h : xclsB K C = true) : PySem.W.KitX K (.ref x) (.ref C) (fun g => PySem.W.InstAt g x ox C none) := by
  obtain ⟨g1, g2, g3, h2, h3, h4, h5, h6⟩ := xcls_of h
  obtain ⟨cd, hcd⟩ := Option.isSome_iff_exists.mp h2
  have hk : ∃ c d sl, K.lookup C = some ⟨c, d, .cls cd, sl⟩ := by
    unfold PySem.W.clsIn at hcd
    split at hcd
    · cases hcd; exact ⟨_, _, _, by assumption⟩
    · cases hcd
  obtain ⟨c0, d0, sl0, hk⟩ := hk
  have hf : PySem.W.findObj K C none "__class__" = some (.bind (.builtin "getset_descriptor.__get__") (.builtin "object.__class__")) := by
    unfold PySem.W.findObj
    rw [hcd, Option.bind_some, h3, Option.bind_some]
    simp [h4, h5]
  refine ⟨fun _ _ _ I => I.type, fun _ _ X _ => ?_, fun g tp dd its n sl X ht => ?_, fun X I k => ?_⟩
  · intro A' Q' E' s' kk q
    unfold isType loadHead
    exact wpAny_bind (wpAny_loadPart (kk _ _ (X _ _ hk)) (wpAny_pure q))
  · cases hz : (Value.ref C == Value.ref tp) with
    | false => rfl
    | true =>
      have e : C = tp := Value.ref.inj (beq_iff_eq.mp hz)
      rw [← e] at ht
      have z := (X _ _ hk).symm.trans ht
      cases z
  · exact exc_class X I g1 g2 hf h6 g3 k
theorem exc_at {X : Cx} {pins : List (Addr × Obj)} {σ : St} {H : Hp} {s : Shared} {a C : Addr} (I : Inv X pins σ H s) (h : H a = some (.ext (isX a C))) : ∃ o, PySem.W.InstAt s.heap a o C none := by
  obtain ⟨⟨o, h1, h2, h3, h4⟩, _⟩ := (show ObjOk X.prog X.w H s.heap a (.ext (isX a C)) from I.hok a _ h)
  exact ⟨o, h1, h2, h4, by rw [h3]; trivial⟩
section
variable {X : Cx} {pins : List (Addr × Obj)} {σ : St} {H : Hp} {s : Shared} {B : Addr → Prop} {A : Around} {E : Value → Shared → Prop} {Q : Value → Shared → Prop}
theorem isinst_rep {d : D} {v : V} {u : Value} {T : String} (I : Inv X pins σ H s) (r : Rep X.K H B d v) (rv : RelV v u) (hT : IsT T) (h : ∀ tk, Q (.bool (isF T d)) { s with toks := tk }) : wpAny (model X.prog X.w) A (call (.builtin "isinstance") [u, .type T]) Q E s := by
  by_cases hd : ∃ x, d = .exc x
  · obtain ⟨x, rfl⟩ := hd
    unfold Rep at r
    obtain ⟨a, C, rfl, _, hq, _, hx⟩ := r
    cases rv
    obtain ⟨o, ie⟩ := exc_at I hq
    have e : PySem.W.kitOne X.K (.ref C) (.type T) = some (isF T (.exc x)) := by
      have h6 := (Bool.and_eq_true_iff.mp hx).2
      rw [List.all_eq_true] at h6
      have h7 := beq_iff_eq.mp (h6 T (by cases hT <;> decide))
      rw [h7]
      cases hT <;> rfl
    exact PySem.W.kia_one (kitx_exc hx) I.kIn ie e (fun z => nomatch z) h
  have hd : ∀ x, d ≠ .exc x := fun x z => hd ⟨x, z⟩
  by_cases hd2 : ∃ x a ks ds, d = .obj x a ks ds
  · obtain ⟨x, a, ks, ds, rfl⟩ := hd2
    unfold Rep at r
    obtain ⟨C, dx, fs, _, hq, ⟨rfl, _, hx, _⟩, _⟩ := r
    cases rv
    obtain ⟨cl, h3, h4, h5, h6, h7, _⟩ := icls_of hx
    obtain ⟨mA, O, _⟩ := ins_get I.hok hq
    obtain ⟨od, J, _⟩ := O.look
    have e : PySem.W.kitOne X.K (.ref C) (.type T) = some (isF T (.obj x a ks ds)) := by
      rw [List.all_eq_true] at h7
      have h8 := beq_iff_eq.mp (h7 T (by cases hT <;> decide))
      rw [h8]
      cases hT <;> rfl
    exact PySem.W.kia_one (PySem.W.kitx_own (cl.get _) cl.hd h3 h4 h5 h6) I.kIn J e (fun z => nomatch z) h
  have e := kit_tt X.K hT d hd (fun x a ks ds z => hd2 ⟨x, a, ks, ds, z⟩)
  cases d with
  | exc x => exact absurd rfl (hd x)
  | obj x a ks ds => exact absurd ⟨x, a, ks, ds, rfl⟩ hd2
  | non => cases r; cases rv; exact PySem.W.kia_one PySem.W.kitx_none I.kIn True.intro e (fun z => nomatch z) h
  | bl y => cases r; cases rv; exact PySem.W.kia_one PySem.W.kitx_bool I.kIn True.intro e (fun z => nomatch z) h
  | int i => cases r; obtain ⟨t, q⟩ := rv; cases q; exact PySem.W.kia_one PySem.W.kitx_int I.kIn True.intro e (fun z => nomatch z) h
  | str y => cases r; obtain ⟨t, q⟩ := rv; cases q; exact PySem.W.kia_one PySem.W.kitx_str I.kIn True.intro e (fun z => nomatch z) h
  | cel a ds =>
    unfold Rep at r
    obtain ⟨xs, _, hq, rfl, _⟩ := r
    cases rv
    obtain ⟨its, _, ⟨o, n, e1, c, _⟩, _⟩ := I.list (SqL.of hq)
    exact PySem.W.kia_one PySem.W.kitx_list I.kIn ⟨o, e1, c⟩ e (fun z => nomatch z) h
  | lst ds =>
    unfold Rep at r
    obtain ⟨a, xs, rfl, _, hq, _⟩ := r
    cases rv
    obtain ⟨its, _, ⟨o, n, e1, c, _⟩, _⟩ := I.list (SqL.of hq)
    exact PySem.W.kia_one PySem.W.kitx_list I.kIn ⟨o, e1, c⟩ e (fun z => nomatch z) h
  | tup ds =>
    unfold Rep at r
    obtain ⟨a, xs, rfl, hq, _⟩ := r
    cases rv
    obtain ⟨its, _, ⟨o, e1, c, _⟩, _⟩ := I.tuple hq
    exact PySem.W.kia_one PySem.W.kitx_tuple I.kIn ⟨o, e1, c⟩ e (fun z => nomatch z) h
  | scr ns =>
    unfold Rep at r
    obtain ⟨a, rfl, hq⟩ := r
    cases rv
    obtain ⟨its, _, ⟨o, n, e1, c, _⟩, _⟩ := I.list hq.sq
    exact PySem.W.kia_one PySem.W.kitx_list I.kIn ⟨o, e1, c⟩ e (fun z => nomatch z) h
  | dct ks ds =>
    unfold Rep at r
    obtain ⟨a, kvs, rfl, _, ea, _⟩ := r
    cases rv
    obtain ⟨_, _, vs, _, p⟩ := (show ObjOk X.prog X.w H s.heap a (.dK kvs) from I.hok a _ ea)
    obtain ⟨o, es, ep, h1, h2, _⟩ := p
    exact PySem.W.kia_one PySem.W.kitx_dict I.kIn ⟨o, h1, h2.1⟩ e (fun z => nomatch z) h
end
section
variable {X : Cx} {e : Expr} {p p2 pos : Pos}
def dIs (T : String) (f : DE) : DE := fun δ => (f δ).map fun d => .bl (isF T d)
theorem call_isR {T : String} (hT : IsT T) : CallR X (.builtin "isinstance") (fun xs H Q => ∃ B d v, xs = [v, .ty T] ∧ Rep X.K H B d v ∧ Q (.bl (isF T d)) H) := by
  intro pins s σ H xs us Q I r h
  obtain ⟨B, d, v, rfl, rv, q⟩ := h
  obtain ⟨u, w', rfl, r1, r2⟩ := vals2 r
  cases r2
  exact isinst_rep I rv r1 hT fun tk => ⟨.bl _, H, I.tok tk, rfl, q⟩
theorem pd_is {f : DE} {x : Str} {T : String} (hT : IsT T) (hb : bootBuiltins x = some (.type T)) (hx : Gl X x) (hmx : X.mg x = none) (hnx : x ≠ "__name__") (hdx : (x == ("__debug__" : Str)) = false) (hg : Gl X "isinstance") (hm : X.mg "isinstance" = none) (h : PD X e f)
    (he : starEach [e, .Name x p2] X.env = [(false, eval e X.env), (false, eval (.Name x p2) X.env)] := by rfl) (he2 : starEach [.Name x p2] X.env = [(false, eval (.Name x p2) X.env)] := by rfl) : PD X (.Call (.Name "isinstance" p) [e, .Name x p2] [] pos) (dIs T f) :=
  (pe_callB (call_isR hT) hg hm boot_isinstance (pa_cons h (pa_cons (pe_bltn (v := .ty T) hx hmx hb rfl hnx hdx) pa_nil he2) (by rw [he, he2])) (by decide) (by decide) (by rw [he, he2]) (by rw [he2]; rfl)).imp fun σ H Q ⟨B, δ, d, hB, S, q, k⟩ => by
    unfold dIs at q
    cases e1 : f δ with
    | none => rw [e1] at q; cases q
    | some d' =>
      rw [e1] at q
      cases q
      exact ⟨B, δ, d', hB, S, e1, fun v H1 s1 r1 => ⟨B, d', v, rfl, r1, k _ H1 s1 rfl⟩⟩
theorem pd_isBool {f : DE} (hx : Gl X "bool") (hmx : X.mg "bool" = none) (hg : Gl X "isinstance") (hm : X.mg "isinstance" = none) (h : PD X e f) (he : starEach [e, .Name "bool" p2] X.env = [(false, eval e X.env), (false, eval (.Name "bool" p2) X.env)] := by rfl) :
    PD X (.Call (.Name "isinstance" p) [e, .Name "bool" p2] [] pos) (dIs "bool" f) := pd_is .bool PyProof.Rows.Boot.«bool» hx hmx (by decide) (by decide) hg hm h he rfl
theorem pd_isInt {f : DE} (hx : Gl X "int") (hmx : X.mg "int" = none) (hg : Gl X "isinstance") (hm : X.mg "isinstance" = none) (h : PD X e f) (he : starEach [e, .Name "int" p2] X.env = [(false, eval e X.env), (false, eval (.Name "int" p2) X.env)] := by rfl) :
    PD X (.Call (.Name "isinstance" p) [e, .Name "int" p2] [] pos) (dIs "int" f) := pd_is .int PyProof.Rows.Boot.«int» hx hmx (by decide) (by decide) hg hm h he rfl
theorem pd_isTup {f : DE} (hx : Gl X "tuple") (hmx : X.mg "tuple" = none) (hg : Gl X "isinstance") (hm : X.mg "isinstance" = none) (h : PD X e f) (he : starEach [e, .Name "tuple" p2] X.env = [(false, eval e X.env), (false, eval (.Name "tuple" p2) X.env)] := by rfl) :
    PD X (.Call (.Name "isinstance" p) [e, .Name "tuple" p2] [] pos) (dIs "tuple" f) := pd_is .tuple PyProof.Rows.Boot.«tuple» hx hmx (by decide) (by decide) hg hm h he rfl
end

/-! ### an owned list is changed -/
/-- what was lent by slot i is forgotten -/
def dropB (i : Nat) : Option SD → Option SD
  | some (.bo r d) => if r = i then none else some (.bo r d)
  | o => o
def dropBs (i : Nat) (δ : SS) : SS := δ.map (dropB i)
theorem dropBs_get {i j : Nat} {δ : SS} {x : SD} (h : (dropBs i δ)[j]? = some (some x)) : δ[j]? = some (some x) ∧ ∀ d, x ≠ .bo i d := by
  unfold dropBs at h
  rw [List.getElem?_map] at h
  cases e : δ[j]? with
  | none => rw [e] at h; cases h
  | some o =>
    rw [e] at h
    have h' : dropB i o = some x := Option.some.inj h
    unfold dropB at h'
    split at h'
    · rename_i r d
      split at h'
      · cases h'
      · rename_i hr
        cases h'
        exact ⟨rfl, fun d' z => by cases z; exact hr rfl⟩
    · rename_i hn
      subst h'
      exact ⟨rfl, fun d z => hn i d (by rw [z])⟩
section
variable {K : PySem.W.Frag} {H0 H : Hp} {B0 : Addr → Prop} {σ : St} {δ : SS} {R : Nat → List Addr}
/-- the list at a, of the slot i's tree, is rewritten: the tree behind it is told; what is new since Hold may come in -/
theorem RS.rewrite {Hold : Hp} {i : Nat} {d d' : D} {a : Addr} {o : HO} {v : V} {A' : List Addr} (h : RS K H0 B0 Hold σ δ R) (e : Same Hold H) (hi : δ[i]? = some (some (.ow d))) (hv : σ[i]? = some (some v)) (ha : a ∈ R i) (t : Tree K (upd H a o) d' v A') (nd : A'.Nodup) (sub : ∀ b ∈ A', b ∈ R i ∨ Hold b = none) :
    RS K H0 B0 (upd H a o) σ ((dropBs i δ).set i (some (.ow d'))) (setR R i A') ∧ Stp R Hold (setR R i A') (upd H a o) := by
  have hm := h.mono e
  obtain ⟨oa, ea, ma⟩ := hm.held i a ha
  have mH : Mut (H a) := by rw [ea]; exact ma
  have mem : ∀ r b, b ∈ setR R i A' r → b ∈ R r ∨ (r = i ∧ Hold b = none) := fun r b z => by
    by_cases hr : r = i
    · subst hr; rw [setR_same] at z; exact (sub b z).imp id fun q => ⟨rfl, q⟩
    · rw [setR_ne hr] at z; exact .inl z
  have kt : KeepI K H (upd H a o) := (Keep.upd (K := K) (B := fun x => x = a) rfl mH).i
  have nh : ∀ r b, b ∈ R r → Hold b = none → False := fun r b z q => by
    obtain ⟨u, q', _⟩ := h.held r b z
    rw [q] at q'; cases q'
  refine ⟨⟨fun b u q => ?_, h.inB, by simp [dropBs, h.len], fun r b z => ?_, fun r b z => ?_, fun r s b z z' => ?_, fun j d2 z => ?_, fun j r2 d2 z => ?_, fun j d2 z => ?_⟩, ⟨fun b u q n => ?_, fun r b z => ?_, fun b z => ?_⟩⟩
  · have ne : b ≠ a := fun z => by subst z; rw [h.new i b ha] at q; cases q
    rw [upd_ne ne]; exact hm.keep b u q
  · rcases mem r b z with z | ⟨_, z⟩
    · exact h.new r b z
    · exact h.keep.free z
  · by_cases hr : r = i
    · subst hr; rw [setR_same] at z; exact t.held d' b z
    · rw [setR_ne hr] at z
      have ne : b ≠ a := fun q => hr (h.disj r i b z (q ▸ ha))
      rw [upd_ne ne]; exact hm.held r b z
  · rcases mem r b z with z | ⟨z1, z2⟩ <;> rcases mem s b z' with z' | ⟨z1', z2'⟩
    · exact h.disj r s b z z'
    · exact (nh r b z z2').elim
    · exact (nh s b z' z2).elim
    · rw [z1, z1']
  · rcases get_set z with ⟨rfl, q, _⟩ | ⟨hj, q⟩
    · cases q
    · obtain ⟨q1, _⟩ := dropBs_get q
      obtain ⟨w, e1, r⟩ := h.sh j d2 q1
      have r2 := (Rep.wide (C := fun b => Hold b = none) (fun _ z => z) d2 r).mono e
      refine ⟨w, e1, Rep.anti ?_ d2 (Rep.keep (.upd (.inl (.inr ⟨i, ha⟩)) mH) d2 r2)⟩
      rintro b (z | ⟨r, z⟩)
      · exact .inl (.inl z)
      · rcases mem r b z with z | ⟨_, z⟩
        · exact .inl (.inr ⟨r, z⟩)
        · exact .inr z
  · rcases get_set z with ⟨rfl, q, _⟩ | ⟨hj, q⟩
    · cases q
    · obtain ⟨q1, q2⟩ := dropBs_get q
      have hr : i ≠ r2 := fun e => q2 d2 (by rw [e])
      obtain ⟨w, e1, r⟩ := h.bo j r2 d2 q1
      have r3 := (Rep.wide (C := fun b => Hold b = none) (fun _ z => z) d2 r).mono e
      refine ⟨w, e1, Rep.anti ?_ d2 (Rep.keep (.upd (.inl (.inr ⟨i, hr, ha⟩)) mH) d2 r3)⟩
      rintro b (z | ⟨s, hs, z⟩)
      · exact .inl (.inl z)
      · rcases mem s b z with z | ⟨_, z⟩
        · exact .inl (.inr ⟨s, hs, z⟩)
        · exact .inr z
  · rcases get_set z with ⟨rfl, q, _⟩ | ⟨hj, q⟩
    · cases q
      rw [setR_same]
      exact ⟨v, hv, t, nd⟩
    · obtain ⟨q1, _⟩ := dropBs_get q
      obtain ⟨w, e1, t', nd'⟩ := hm.ow j d2 q1
      rw [setR_ne hj]
      refine ⟨w, e1, Tree.keep kt d2 t' fun b hb u q => ?_, nd'⟩
      have ne : b ≠ a := fun z => by subst z; exact hj (h.disj j i b hb ha)
      rw [upd_ne ne]; exact q
  · have ne : b ≠ a := fun z => n i (z ▸ ha)
    rw [upd_ne ne]; exact e b u q
  · rcases mem r b z with z | ⟨_, z⟩
    · exact .inl ⟨r, z⟩
    · exact .inr z
  · by_cases hb : b = a
    · subst hb; rw [upd_same] at z; cases z
    · rw [upd_ne hb] at z; exact e.free z
/- items that cannot change, in a tree without lists -/
mutual
theorem Tree.flat : ∀ (d : D) {v : V} {A : List Addr}, d.imm = true → Tree K H d v A → A = []
  | .non, _, _, _, h => h.2
  | .bl _, _, _, _, h => h.2
  | .int _, _, _, _, h => h.2
  | .str _, _, _, _, h => h.2
  | .lst _, _, _, i, _ => by unfold D.imm at i; cases i
  | .dct _ _, _, _, i, _ => by unfold D.imm at i; cases i
  | .exc _, _, _, i, _ => by unfold D.imm at i; cases i
  | .obj _ _ _ _, _, _, i, _ => by unfold D.imm at i; cases i
  | .cel _ _, _, _, i, _ => by unfold D.imm at i; cases i
  | .tup ds, _, _, i, h => by
    unfold D.imm at i
    unfold Tree at h
    obtain ⟨a, xs, _, _, r⟩ := h
    exact Trees.flat ds i r
  | .scr _, _, _, _, h => h.2
theorem Trees.flat : ∀ (ds : List D) {xs : List V} {A : List Addr}, imms ds = true → Trees K H ds xs A → A = []
  | [], _, _, _, h => h.2
  | d :: ds, _, _, i, h => by
    unfold imms at i
    rw [Bool.and_eq_true] at i
    unfold Trees at h
    obtain ⟨x, r, C, C', rfl, h1, h2, rfl⟩ := h
    rw [Trees.flat ds i.2 h2, List.append_nil]
    exact Tree.flat d i.1 h1
end
theorem Trees.append : ∀ {ds es : List D} {xs ys : List V} {A C : List Addr}, Trees K H ds xs A → Trees K H es ys C → Trees K H (ds ++ es) (xs ++ ys) (A ++ C)
  | [], _, _, _, _, _, h, h' => by obtain ⟨rfl, rfl⟩ := h; exact h'
  | d :: ds, es, _, ys, _, C, h, h' => by
    unfold Trees at h
    obtain ⟨y, r, A1, A2, rfl, h1, h2, rfl⟩ := h
    exact (show Trees K H (d :: (ds ++ es)) (y :: (r ++ ys)) (A1 ++ A2 ++ C) by unfold Trees; exact ⟨y, _, A1, A2 ++ C, rfl, h1, Trees.append h2 h', List.append_assoc _ _ _⟩)
theorem Trees.split : ∀ {ds : List D} {xs : List V} {A : List Addr} (k : Nat), Trees K H ds xs A → ∃ A1 A2, A = A1 ++ A2 ∧ Trees K H (ds.take k) (xs.take k) A1 ∧ Trees K H (ds.drop k) (xs.drop k) A2
  | ds, xs, A, 0, h => ⟨[], A, rfl, by rw [List.take_zero, List.take_zero]; exact ⟨rfl, rfl⟩, h⟩
  | [], _, _, k + 1, h => by
    obtain ⟨rfl, rfl⟩ := h
    exact ⟨[], [], rfl, ⟨rfl, rfl⟩, ⟨rfl, rfl⟩⟩
  | d :: ds, _, _, k + 1, h => by
    unfold Trees at h
    obtain ⟨y, r, A1, A2, rfl, h1, h2, rfl⟩ := h
    obtain ⟨C1, C2, rfl, h3, h4⟩ := Trees.split k h2
    refine ⟨A1 ++ C1, C2, (List.append_assoc _ _ _).symm, ?_, h4⟩
    rw [List.take_succ_cons, List.take_succ_cons]
    unfold Trees
    exact ⟨y, _, A1, C1, rfl, h1, h3, rfl⟩
theorem Trees.one {d : D} {x : V} {A : List Addr} (h : Tree K H d x A) : Trees K H [d] [x] A := by
  unfold Trees
  exact ⟨x, [], A, [], rfl, h, ⟨rfl, rfl⟩, (List.append_nil _).symm⟩
theorem Trees.length : ∀ {ds : List D} {xs : List V} {A : List Addr}, Trees K H ds xs A → ds.length = xs.length
  | [], _, _, h => by obtain ⟨rfl, _⟩ := h; rfl
  | d :: ds, _, _, h => by
    unfold Trees at h
    obtain ⟨x, r, _, _, rfl, _, h2, _⟩ := h
    simp [Trees.length h2]
theorem RS.top {i : Nat} {ds : List D} (h : RS K H0 B0 H σ δ R) (hi : δ[i]? = some (some (.ow (.lst ds)))) : ∃ a xs A, σ[i]? = some (some (.ref a)) ∧ H a = some (.lst xs) ∧ Trees K H ds xs A ∧ R i = a :: A ∧ (a :: A).Nodup := by
  obtain ⟨v, e, t, nd⟩ := h.ow i _ hi
  unfold Tree at t
  obtain ⟨a, xs, A, rfl, ha, ts, e2⟩ := t
  rw [e2] at nd
  exact ⟨a, xs, A, e, ha, ts, e2, nd⟩
/-- the owned list of slot i gets other items -/
theorem RS.put0 {Hold : Hp} {i : Nat} {ds ds' : List D} {a : Addr} {xs' : List V} {A A' : List Addr} (h : RS K H0 B0 Hold σ δ R) (e : Same Hold H) (hi : δ[i]? = some (some (.ow (.lst ds)))) (hv : σ[i]? = some (some (.ref a))) (hR : R i = a :: A) (nd : (a :: A).Nodup)
    (t : Trees K H ds' xs' A') (nd' : A'.Nodup) (sub : ∀ b ∈ A', b ∈ A ∨ Hold b = none) : RS K H0 B0 (upd H a (.lst xs')) σ ((dropBs i δ).set i (some (.ow (.lst ds')))) (setR R i (a :: A')) ∧ Stp R Hold (setR R i (a :: A')) (upd H a (.lst xs')) := by
  have ha : a ∈ R i := by rw [hR]; exact List.mem_cons_self
  obtain ⟨oa, ea, ma⟩ := h.held i a ha
  have nA : ∀ b ∈ A', b ≠ a := fun b hb z => by
    rcases sub b hb with q | q
    · exact (List.nodup_cons.mp nd).1 (z ▸ q)
    · rw [z, ea] at q; cases q
  have mH : Mut (H a) := by rw [e a oa ea]; exact ma
  refine h.rewrite e hi hv ha ?_ (List.nodup_cons.mpr ⟨fun z => nA a z rfl, nd'⟩) fun b hb => ?_
  · unfold Tree
    refine ⟨a, xs', A', rfl, upd_same, Trees.keep (Keep.upd (K := K) (B := fun x => x = a) rfl mH).i ds' t fun b hb o q => ?_, rfl⟩
    rw [upd_ne (nA b hb)]; exact q
  · rw [hR]
    rcases List.mem_cons.mp hb with z | z
    · rw [z]; exact .inl List.mem_cons_self
    · exact (sub b z).imp (List.mem_cons_of_mem _) id
end
end L2

/-! ### E8: methods and stores on owned lists; nested comprehensions; slices; arithmetic in short -/
namespace L2
open PySem PySem.Spec PyProof.Rows

instance {i j : Int} : Decidable (CDiv i j) := by unfold CDiv; infer_instance
instance {i j : Int} : Decidable (CPow i j) := by unfold CPow; infer_instance
instance {i j : Int} : Decidable (CMul i j) := by unfold CMul; infer_instance

/-- what a list's method makes of its items, by trees; what it hands back is not looked at -/
def LM (K : PySem.W.Frag) (r : V → List V → Hp → VK → Prop) (F : List D → List D → Option (List D)) : Prop :=
  ∀ (H : Hp) (a : Addr) (xs : List V) (ds args : List D) (vs : List V) (ds' : List D) (Q : VK), H a = some (.lst xs) → ds.length = xs.length → Reps K H noB args vs → F ds args = some ds' →
    (∀ (w : V) (xs' : List V), (∀ (H2 : Hp) (A C : List Addr), Trees K H2 ds xs A → Trees K H2 args vs C → ∃ A', Trees K H2 ds' xs' A' ∧ ((A ++ C).Nodup → A'.Nodup) ∧ ∀ b ∈ A', b ∈ A ∨ b ∈ C) → Q w (upd H a (.lst xs'))) → r (.ref a) vs H Q

def appF : List D → List D → Option (List D) := fun ds args => match args with
  | [d] => if ds.length < sizeLine then some (ds ++ [d]) else none
  | _ => none
theorem lm_append {K : PySem.W.Frag} : LM K rAppend appF := by
  intro H a xs ds args vs ds' Q ha hl hr q k
  unfold appF at q
  split at q
  · rename_i d
    split at q
    · rename_i hz
      cases q
      obtain ⟨y, rfl, ry⟩ := reps1 hr
      refine ⟨a, xs, y, rfl, rfl, ha, by rw [← hl]; exact hz, k _ _ fun H2 A C t tc => ⟨A ++ C, t.append tc, fun z => z, fun b hb => List.mem_append.mp hb⟩⟩
    · cases q
  · cases q
/-- insert(k, y) -/
def insK (n : Nat) (i : Int) : Nat := if i < 0 then (i + (n : Int)).toNat else min i.toNat n
def insF : List D → List D → Option (List D) := fun ds args => match args with
  | [.int i, d] => if ds.length < sizeLine ∧ -(2 ^ 63) ≤ i ∧ i < 2 ^ 63 then some (ds.take (insK ds.length i) ++ d :: ds.drop (insK ds.length i)) else none
  | _ => none

section
variable {X : Cx} {H0 : Hp} {B0 : Addr → Prop} {fr : Bool} {RX : XR} {e e2 : Expr} {es : List Expr} {pos ap cp : Pos} {x name : Str} {px p2 : Pos} {bid : String} {r : V → List V → Hp → VK → Prop} {F : List D → List D → Option (List D)} {fl : List DE}
/-- x.m(..) at the owned list of slot i, with what cannot change; at its k-th item -/
def m0 (i : Nat) (F : List D → List D → Option (List D)) (fl : List DE) : SS → Option Out := fun δ => (dArgs fl (allV δ)).bind fun args => if imms args = true then (match δ[i]? with
  | some (some (.ow (.lst ds))) => (F ds args).map fun ds' => .nx ((dropBs i δ).set i (some (.ow (.lst ds'))))
  | _ => none) else none
theorem m0_core {i : Nat} {to : TE} (hL : LM X.K r F) (hto : to = tVar i) (D : Ends) (σ : St) (H : Hp) (h : tS X.K H0 B0 fr RX (m0 i F fl) D σ H) : tDrop (tBM X.K "list" r to (tDs X.K (dArgs fl))) D σ H := by
  subst hto
  obtain ⟨δ, R, o, rs, q, k⟩ := h
  unfold m0 at q
  cases e1 : dArgs fl (allV δ) with
  | none => rw [e1] at q; cases q
  | some args =>
    rw [e1] at q
    have q : (if imms args = true then (match δ[i]? with | some (some (.ow (.lst ds))) => (F ds args).map fun ds' => Out.nx ((dropBs i δ).set i (some (.ow (.lst ds')))) | _ => none) else none) = some o := q
    split at q
    case isFalse => cases q
    case isTrue hi =>
    split at q
    case h_2 => cases q
    case h_1 ds ei =>
    cases e2 : F ds args with
    | none => rw [e2] at q; cases q
    | some ds' =>
      rw [e2] at q
      cases q
      obtain ⟨a, xs, A, ev, ha, ts, eR, nd⟩ := rs.top ei
      refine ⟨.ref a, ev, .inl ⟨rfl, xs, SqL.of ha⟩, noB, allV δ, args, .no, rs.all, e1, fun vs H2 s2 r2 => ?_⟩
      refine hL H2 a xs ds args vs ds' _ (s2 _ _ ha) ts.length r2 e2 fun w xs' up => ?_
      obtain ⟨A', t', n', sub⟩ := up H2 A [] (ts.mono s2) (r2.immTree args hi)
      have P := rs.put0 s2 ei ev eR nd t' (n' (by rw [List.append_nil]; exact (List.nodup_cons.mp nd).2)) fun b hb => (sub b hb).imp id (fun z => nomatch z)
      exact k σ _ _ P.1 P.2
theorem s_m0 {i : Nat} (slot : Slot "list" name bid) (hty : typeOf (.builtin bid) = pure (.type "method_descriptor")) (hm : MtM X bid r) (hL : LM X.K r F) (hx : PE X (.Name x px) (tVar i)) (ha : PAD X (e :: es) fl)
    (hbase : attributeBase (.Name x px) name X.env (eval (.Name x px) X.env) = eval (.Name x px) X.env := by rfl)
    (hfew : ((backTo cp (starEach (e :: es) X.env)).all (fun x => !x.1) && (backToKw cp (keywordEach [] X.env)).all (fun x => x.1.isSome) && decide ((e :: es).length + ([] : List Keyword).length + (if ([] : List Keyword).isEmpty then 0 else 1) < 30)) = true := by rfl)
    (hline : (ap.endLine == cp.line) = true := by rfl) (hs : starEach (e :: es) X.env = (false, eval e X.env) :: starEach es X.env := by rfl) (hplain : (backTo cp (starEach es X.env)).any (·.1) = false := by rfl)
    (hsw : swapsWith (.Call (.Attribute (.Name x px) name ap) (e :: es) [] cp) none pos.line X.env = pure false := by rfl) :
    PS X (.Expr (.Call (.Attribute (.Name x px) name ap) (e :: es) [] cp) pos) (tS X.K H0 B0 fr RX (m0 i F fl)) :=
  PS.imp (ps_expr (pe_bm PySem.F.plainAttrs_list slot hty hm hx ha hbase hfew hline hs hplain) hsw) (m0_core hL rfl)

/-- x[k].m(..): the k-th item of the owned list of slot i, a list whose items cannot change -/
def m1 (i : Nat) (fk : DE) (F : List D → List D → Option (List D)) (fl : List DE) : SS → Option Out := fun δ => (fk (allV δ)).bind fun dk => match dk with
  | .int k => (dArgs fl (allV δ)).bind fun args => if imms args = true then (match δ[i]? with
    | some (some (.ow (.lst ds))) => (ixN ds.length k).bind fun j => match ds[j]? with
      | some (.lst es) => if imms es = true then (F es args).bind fun es' => if imms es' = true then some (.nx ((dropBs i δ).set i (some (.ow (.lst (ds.set j (.lst es'))))))) else none else none
      | _ => none
    | _ => none) else none
  | _ => none

/-- x[k] = e, x[k][j] = e with what cannot change -/
def st0 (i : Nat) (fk fv : DE) : SS → Option Out := fun δ => (fv (allV δ)).bind fun d => if d.imm = true then (fk (allV δ)).bind fun dk => (match dk, δ[i]? with
  | .int k, some (some (.ow (.lst ds))) => (ixN ds.length k).map fun j => .nx ((dropBs i δ).set i (some (.ow (.lst (ds.set j d)))))
  | _, _ => none) else none
def st1 (i : Nat) (fk fj fv : DE) : SS → Option Out := fun δ => (fv (allV δ)).bind fun d => if d.imm = true then (fk (allV δ)).bind fun dk => (fj (allV δ)).bind fun dj => (match dk, dj, δ[i]? with
  | .int k, .int j, some (some (.ow (.lst ds))) => (ixN ds.length k).bind fun k' => (match ds[k']? with
    | some (.lst es) => if imms es = true then (ixN es.length j).map fun j' => .nx ((dropBs i δ).set i (some (.ow (.lst (ds.set k' (.lst (es.set j' d))))))) else none
    | _ => none)
  | _, _, _ => none) else none
end
end L2

/-! ### E9: stores; nested comprehensions; slices; defs that take over a list -/
namespace L2
open PySem PySem.Spec PyProof.Rows
section
variable {X : Cx} {H0 : Hp} {B0 : Addr → Prop} {fr : Bool} {RX : XR} {e ke je : Expr} {pos : Pos} {x : Str} {px p2 p3 : Pos}
end

/-! ### slices of lists -/
section
variable {X : Cx} {e a b : Expr} {lo hi : Option Expr} {p2 pos : Pos}
def tO (K : PySem.W.Frag) (f : DS → Option (Option Int)) : TO := fun σ H Q => ∃ B δ o, InB B H ∧ RepS K H B σ δ ∧ f δ = some o ∧ ∀ H', Same H H' → Q o H'
abbrev POD (X : Cx) (e : Option Expr) (f : DS → Option (Option Int)) : Prop := PO X e (tO X.K f)
theorem PO.imp {eo : Option Expr} {t t' : TO} (h : PO X eo t) (w : ∀ σ H Q, t' σ H Q → t σ H Q) : PO X eo t' := fun pins s σ H Q I q => h pins s σ H Q I (w σ H Q q)
def dNoPart : DS → Option (Option Int) := fun _ => some none
def dPart (f : DE) : DS → Option (Option Int) := fun δ => match f δ with
  | some (.int i) => some (some i)
  | _ => none
theorem po_noneD : POD X none dNoPart := po_none.imp fun σ H Q ⟨B, δ, o, hB, S, q, k⟩ => by
  cases q
  exact k H (.refl H)
theorem po_someD {f : DE} (h : PD X e f) : POD X (some e) (dPart f) := (po_some h).imp fun σ H Q ⟨B, δ, o, hB, S, q, k⟩ => by
  unfold dPart at q
  split at q
  · rename_i i e1
    cases q
    exact ⟨B, δ, .int i, hB, S, e1, fun v H' s r => ⟨i, r, k H' s⟩⟩
  · cases q
def cutL (ds : List D) (lo hi : Option Int) : List D := (ds.drop (HT.sIx ds.length 0 lo)).take (HT.sIx ds.length ds.length hi - HT.sIx ds.length 0 lo)
def dCut (f : DE) (fl fh : DS → Option (Option Int)) : DS → Option (List D) := fun δ => match f δ with
  | some (.lst ds) => (fl δ).bind fun lo => (fh δ).map fun hi => cutL ds lo hi
  | some (.scr ns) => (fl δ).bind fun lo => (fh δ).map fun hi => cutL (ns.map .int) lo hi
  | _ => none
theorem pf_slice {f : DE} {fl fh : DS → Option (Option Int)} (he : PD X e f) (hl : POD X lo fl) (hh : POD X hi fh) : PF X (.Subscript e (.Slice lo hi none p2) pos) (dCut f fl fh) := (pe_slice sl_list he hl hh).imp fun σ H Q ⟨B, δ, ds', hB, S, q, k⟩ => by
  unfold dCut at q
  have core : ∀ (d : D) (ds : List D), f δ = some d → ((fl δ).bind fun lo => (fh δ).map fun hi => cutL ds lo hi) = some ds' → (∀ v H1, Rep X.K H1 B d v → ∃ a xs, v = .ref a ∧ (∀ H2, Same H1 H2 → SqL X.K H2 a xs) ∧ Reps X.K H1 B ds xs) →
      tSl (rSlL X.K) (tD X.K f) (tO X.K fl) (tO X.K fh) σ H Q := by
    intro d ds e1 q get
    cases e2 : fl δ with
    | none => rw [e2] at q; cases q
    | some l =>
    cases e3 : fh δ with
    | none => rw [e2, e3] at q; cases q
    | some u =>
    rw [e2, e3] at q
    cases q
    refine ⟨B, δ, _, hB, S, e1, fun v H1 s1 r1 => ⟨B, δ, l, hB.mono s1, S.mono s1, e2, fun H2 s2 => ⟨B, δ, u, (hB.mono s1).mono s2, (S.mono s1).mono s2, e3, fun H3 s3 => ?_⟩⟩⟩
    obtain ⟨a, xs, rfl, hq, rs⟩ := get v H1 r1
    refine ⟨a, xs, rfl, hq H3 (s2.trans s3), fun p hp => ?_⟩
    have sa := same_upd (o := .lst (cutV xs l u)) hp
    refine k p _ _ (((s1.trans s2).trans s3).trans sa) ((s1.trans (s2.trans s3)).free hp) upd_same ?_
    unfold cutL cutV
    rw [rs.length]
    exact ((rs.drop _).take _).mono ((s2.trans s3).trans sa)
  split at q
  case h_3 => cases q
  case h_1 ds e1 =>
    refine core _ ds e1 q fun v H1 r1 => ?_
    unfold Rep at r1
    obtain ⟨a, xs, rfl, _, hq, rs⟩ := r1
    exact ⟨a, xs, rfl, fun H2 s2 => SqL.of (s2 _ _ hq), rs⟩
  case h_2 ns e1 =>
    refine core _ (ns.map .int) e1 q fun v H1 r1 => ?_
    unfold Rep at r1
    obtain ⟨a, rfl, hq⟩ := r1
    exact ⟨a, _, rfl, fun H2 s2 => (s2.sf hq).sq, reps_ints ns⟩
end

/-! ### [elt for x in iter if c], each item all new -/
section
variable {X : Cx} {pos : Pos} {x : Str} {iter elt : Expr} {N' : List Str} {sc : Scope} {ifs : List Expr} {n : Nat} {px : Pos} {fi : DS → Option (List D)} {fc : DS → Option Bool} {fe : DE}
theorem comp_ofN {σ : St} {H : Hp} {Q : VK} (hσ : σ.length = n) (hq : tN X.K (mkL (dComp fi fc fe)) σ H Q) : tComp (tI X.K fi) (gName n) (tT X.K fc) (tN X.K fe) 1 σ H Q := by
  obtain ⟨δ, d0, Sδ, q, k⟩ := hq
  unfold mkL at q
  cases eds : dComp fi fc fe δ with
  | none => rw [eds] at q; cases q
  | some ds =>
  rw [eds] at q
  cases q
  unfold dComp at eds
  cases e1 : fi δ with
  | none => rw [e1] at eds; cases eds
  | some xs =>
  rw [e1] at eds
  have q1 : (if xs.length ≤ sizeLine then compL (fun x => (fc (δ ++ [some x])).bind fun k => if k = true then (fe (δ ++ [some x])).map some else some none) xs else none) = some ds := eds
  split at q1
  case isFalse => cases q1
  case isTrue hsz =>
  refine ⟨noB, δ, xs, .no, Sδ, e1, fun J H1 s1 itw => fun Da hD => ?_⟩
  have hD0 : H Da = none := s1.free hD
  have it := itw (fun a => H1 a = none) fun a ha => ha
  refine ⟨fun i m σ' H' => m = xs.length - i ∧ i ≤ xs.length ∧ (∃ w, σ' = σ ++ [w]) ∧ Same H1 H' ∧ ∃ ys dn rs A, H' Da = some (.lst ys) ∧ Trees X.K H' dn ys A ∧ (Da :: A).Nodup ∧ (∀ a ∈ A, H1 a = none) ∧ ds = dn ++ rs ∧ dn.length ≤ i ∧
    compL (fun x => (fc (δ ++ [some x])).bind fun k => if k = true then (fe (δ ++ [some x])).map some else some none) (xs.drop i) = some rs,
    ⟨xs.length, by simp, Nat.zero_le _, ⟨none, rfl⟩, same_upd hD, [], [], ds, [], upd_same, .nil, List.nodup_cons.mpr ⟨(fun z => nomatch z), List.nodup_nil⟩, (fun a z => nomatch z), rfl, Nat.le_refl _, q1⟩, ?_⟩
  rintro i m σ' H' ⟨rfl, hi', ⟨w, rfl⟩, sm, ys, dn, rs, A, hys, tys, nd, fr, hds, hln, hrs⟩
  have kp : Keep X.K (fun a => noB a ∨ H1 a = none) H1 H' := .same sm
  by_cases hlt : i < xs.length
  · refine .inr ⟨it.go i H' kp hlt, fun σ'' H'' => (i + 1 ≤ xs.length ∧ (∃ w, σ'' = σ ++ [w]) ∧ Same H1 H'' ∧ ∃ ys dn rs A, H'' Da = some (.lst ys) ∧ Trees X.K H'' dn ys A ∧ (Da :: A).Nodup ∧ (∀ a ∈ A, H1 a = none) ∧ ds = dn ++ rs ∧ dn.length ≤ i + 1 ∧
      compL (fun x => (fc (δ ++ [some x])).bind fun k => if k = true then (fe (δ ++ [some x])).map some else some none) (xs.drop (i + 1)) = some rs), fun σ'' H'' h => ⟨xs.length - (i + 1), by omega, rfl, h⟩, fun xv H2 hy => ?_⟩
    obtain ⟨s2, d, hd, rd⟩ := it.yld i H' xv H2 kp hy
    have hdi := hd hlt
    have hx : xs.drop i = d :: xs.drop (i + 1) := by
      obtain ⟨hl, e⟩ := List.getElem?_eq_some_iff.mp hdi
      rw [List.drop_eq_getElem_cons hl, e]
    rw [hx] at hrs
    obtain ⟨o, rs', e2, e3, e4⟩ := compL_cons hrs
    show tT X.K fc ((σ ++ [w]).set n (some xv)) H2 _
    rw [← hσ, set_snoc]
    have S2 : RepS X.K H2 noB (σ ++ [some xv]) (δ ++ [some d]) := (((Sδ.mono s1).mono sm).mono s2).snoc (rd.anti fun a z => z.elim)
    have hl2 : ys.length < sizeLine := by
      have := tys.length
      omega
    cases ec : fc (δ ++ [some d]) with
    | none => rw [ec] at e2; cases e2
    | some kk =>
      rw [ec] at e2
      have e2' : (if kk = true then (fe (δ ++ [some d])).map some else some none) = some o := e2
      refine ⟨noB, δ ++ [some d], kk, .no, S2, ec, fun H3 s3 => ?_⟩
      cases kk with
      | false =>
        rw [if_neg Bool.false_ne_true] at e2'
        rw [if_neg Bool.false_ne_true]
        cases e2'
        exact ⟨hlt, ⟨_, rfl⟩, (sm.trans s2).trans s3, ys, dn, rs', A, s3 _ _ (s2 _ _ hys), (tys.mono s2).mono s3, nd, fr, by rw [hds, e4]; rfl, Nat.le_succ_of_le hln, e3⟩
      | true =>
        rw [if_pos rfl] at e2'
        rw [if_pos rfl]
        cases ey : fe (δ ++ [some d]) with
        | none => rw [ey] at e2'; cases e2'
        | some y =>
          rw [ey] at e2'
          cases e2'
          refine ⟨δ ++ [some d], y, S2.mono s3, ey, fun yv H5 A5 s5 t5 nd5 fr5 => ⟨ys, s5 _ _ (s3 _ _ (s2 _ _ hys)), hl2, ?_⟩⟩
          have s15 : Same H' H5 := (s2.trans s3).trans s5
          have hu : H5 Da = some (.lst ys) := s15 _ _ hys
          have mu : Mut (H5 Da) := by rw [hu]; exact trivial
          have hDa3 : H3 Da = some (.lst ys) := s3 _ _ (s2 _ _ hys)
          have nDa : Da ∉ A ++ A5 := fun z => by
            rcases List.mem_append.mp z with z | z
            · exact (List.nodup_cons.mp nd).1 z
            · have := fr5 Da z
              rw [hDa3] at this; cases this
          refine ⟨hlt, ⟨_, rfl⟩, fun b u hb => ?_, ys ++ [yv], dn ++ [y], rs', A ++ A5, upd_same, ?_, List.nodup_cons.mpr ⟨nDa, ?_⟩, fun a ha => ?_, by rw [hds, e4, List.append_assoc]; rfl, by rw [List.length_append]; simp; omega, e3⟩
          · rw [upd_ne (ne_of_none hb hD)]
            exact s15 _ _ (sm _ _ hb)
          · refine Trees.keep (Keep.upd (K := X.K) (B := fun x => x = Da) rfl mu).i _ ((tys.mono s15).snoc t5) fun b hb u q => ?_
            have ne : b ≠ Da := fun z => nDa (z ▸ hb)
            rw [upd_ne ne]; exact q
          · refine List.nodup_append.mpr ⟨(List.nodup_cons.mp nd).2, nd5, fun b hb c hc z => ?_⟩
            subst z
            obtain ⟨u, q, _⟩ := Trees.held _ tys b hb
            have := fr5 b hc
            rw [(s2.trans s3) _ _ q] at this; cases this
          · rcases List.mem_append.mp ha with z | z
            · exact fr a z
            · exact sm.free ((s2.trans s3).free (fr5 a z))
  · have e : i = xs.length := by omega
    subst e
    refine .inl ⟨it.stop _ H' kp (Nat.le_refl _), ?_⟩
    rw [List.drop_length] at hrs
    cases hrs
    rw [List.append_nil] at hds
    subst hds
    refine k (.ref Da) H' (Da :: A) (s1.trans sm) ?_ nd fun a ha => ?_
    · unfold Tree
      exact ⟨Da, ys, A, rfl, hys, tys, rfl⟩
    · rcases List.mem_cons.mp ha with z | z
      · rw [z]; exact hD0
      · exact s1.free (fr a z)
theorem pn_comp (hc : X.calm = true) (S : CompScope X.N X.env.scope.names N' 1 sc) (hn : n = X.N.length) (hi : PID X (.Name x px) iter fi)
    (hg : ∀ s H fp pins E, PG (cxComp X N' sc s H fp pins E) (.Name x px) (gName n)) (ht : ∀ s H fp pins E, PIfs (cxComp X N' sc s H fp pins E) ifs (tT X.K fc)) (he : ∀ s H fp pins E, PE (cxComp X N' sc s H fp pins E) elt (tN X.K fe))
    (hs : ∀ x, foldedSetIterable iter X.env x = pure x := by intro _; rfl) : PN X (.ListComp elt [⟨.Name x px, iter, ifs, 0⟩] sc pos) (mkL (dComp fi fc fe)) := by
  intro pins s σ H Q I hq
  exact pe_comp hc S hi ⟨hg, ht, he⟩ hs pins s σ H Q I (comp_ofN (by rw [hn, I.len]) hq)
end
end L2

/-! ### E10: arithmetic in short; a def that takes over its first argument; the law itself -/
namespace L2
open PySem PySem.Spec PyProof.Rows
section
variable {X : Cx} {a b : Expr} {pos : Pos} {f g : DE}
def addI : D → D → Option D := iop fun i j => some (.int (i + j))
def subI : D → D → Option D := iop fun i j => some (.int (i - j))
def divI : D → D → Option D := iop fun i j => if CDiv i j then some (.int (i / j)) else none
def modI : D → D → Option D := iop fun i j => if 0 < j then some (.int (i % j)) else none
def powI : D → D → Option D := iop fun i j => if CPow i j then some (.int (i ^ j.toNat)) else none
def ltI : D → D → Option D := iop fun i j => some (.bl (decide (i < j)))
def leI : D → D → Option D := iop fun i j => some (.bl (decide (i ≤ j)))
def gtI : D → D → Option D := iop fun i j => some (.bl (decide (j < i)))
def geI : D → D → Option D := iop fun i j => some (.bl (decide (j ≤ i)))
theorem pd_add (ha : PD X a f) (hb : PD X b g) : PD X (.BinOp a .Add b pos) (d2 addI f g) := pd_op op_add o2_int0 ha hb
theorem pd_sub (ha : PD X a f) (hb : PD X b g) : PD X (.BinOp a .Sub b pos) (d2 subI f g) := pd_op op_sub o2_int0 ha hb
theorem pd_div (ha : PD X a f) (hb : PD X b g) : PD X (.BinOp a .FloorDiv b pos) (d2 divI f g) := pd_op op_fdiv o2_int ha hb
theorem pd_mod (ha : PD X a f) (hb : PD X b g) : PD X (.BinOp a .Mod b pos) (d2 modI f g) := pd_op op_mod o2_int ha hb
theorem pd_pow (ha : PD X a f) (hb : PD X b g) : PD X (.BinOp a .Pow b pos) (d2 powI f g) := pd_op op_pow o2_int ha hb
theorem pd_eq (hu : X.A.units + 64 < cLine) (ha : PD X a f) (hb : PD X b g) : PD X (.Compare a [.Eq] [b] pos) (d2 eqD f g) := pd_cmp (op_eqD hu) o2_eq ha hb (nomark _)
theorem pd_ne (hu : X.A.units + 64 < cLine) (ha : PD X a f) (hb : PD X b g) : PD X (.Compare a [.NotEq] [b] pos) (d2 neD f g) := pd_cmp (op_neD hu) o2_ne ha hb (nomark _)
theorem pd_in (hu : X.A.units + 64 < cLine) (ha : PD X a f) (hb : PD X b g) (hm : behindInMarks .In b = false := by rfl) : PD X (.Compare a [.In] [b] pos) (d2 inD f g) := pd_cmp (op_inD hu) o2_in ha hb hm
theorem pt_lt (ha : PD X a f) (hb : PD X b g) : PTD X (.Compare a [.Lt] [b] pos) (dTest (d2 ltI f g)) := pt_cmpD op_lt o2_bool0 ha hb (nomark _)
theorem pt_eq (hu : X.A.units + 64 < cLine) (ha : PD X a f) (hb : PD X b g) : PTD X (.Compare a [.Eq] [b] pos) (dTest (d2 eqD f g)) := pt_cmpD (op_eqD hu) o2_eq ha hb (nomark _)
theorem pt_ne (hu : X.A.units + 64 < cLine) (ha : PD X a f) (hb : PD X b g) : PTD X (.Compare a [.NotEq] [b] pos) (dTest (d2 neD f g)) := pt_cmpD (op_neD hu) o2_ne ha hb (nomark _)
theorem pt_in (hu : X.A.units + 64 < cLine) (ha : PD X a f) (hb : PD X b g) (hm : behindInMarks .In b = false := by rfl) : PTD X (.Compare a [.In] [b] pos) (dTest (d2 inD f g)) := pt_cmpD (op_inD hu) o2_in ha hb hm
theorem pt_nin (hu : X.A.units + 64 < cLine) (ha : PD X a f) (hb : PD X b g) (hm : behindInMarks .NotIn b = false := by rfl) : PTD X (.Compare a [.NotIn] [b] pos) (dTest (d2 ninD f g)) := pt_cmpD (op_ninD hu) o2_nin ha hb hm
end

/-! ### a def that takes over a list -/
section
variable {P : Program} {w : World} {K : PySem.W.Frag} {mg : Str → Option Value} {base : Heap}
end
/-! x = f(x, ..): the owned list of slot i goes and comes -/
section
variable {X : Cx} {H0 : Hp} {B0 : Addr → Prop} {fr : Bool} {RX : XR} {e : Expr} {es : List Expr} {pos p px px2 cp : Pos} {x fn : Str} {k : Nat} {F : List D → Option D} {fl : List DE}
def asgM (i : Nat) (F : List D → Option D) (fl : List DE) : SS → Option Out := fun δ => (dArgs fl (allV δ)).bind fun args => if imms args = true then (match δ[i]? with
  | some (some (.ow d0)) => (F (d0 :: args)).map fun d => .nx ((dropBs i δ).set i (some (.ow d)))
  | _ => none) else none
end

/-! ### the law: a list of at most 63 ints is handed in, True comes out -/
def spLaw (K : PySem.W.Frag) (F : List D → Option D) : Sp := fun vs H Q _ => ∃ (a : Addr) (ns : List Int), vs = [.ref a] ∧ SqF K H a (ns.map V.int) ∧ F [.scr ns] = some (.bl true) ∧ ∀ H', Q (.bl true) H'
theorem only_sqF {K : PySem.W.Frag} {H : Hp} {a : Addr} {xs : List V} (hO : Only H) (h : SqL K H a xs) : SqF K H a xs := by
  rcases h with (h | h) | h
  · rcases hO a with z | ⟨o, ys, z⟩ <;> (rw [h] at z; cases z)
  · exact .inl h
  · exact .inr h
/-- the law's def, by its promise as a def -/
theorem law_of {P : Program} {w : World} {K : PySem.W.Frag} {mg : Str → Option Value} {base : Heap} {k : Nat} {f : Addr} {fd : FuncData} {ps : List Str} {F : List D → Option D} (h : FnOk P w K mg base CX0 k f fd ps (spN K F)) : FnOk P w K mg base CX0 k f fd ps (spLaw K F) := by
  refine h.imp fun vs H Q E z => ?_
  obtain ⟨a, ns, rfl, hq, e, q⟩ := z
  refine ⟨[.scr ns], .bl true, .cons ?_ .nil, e, fun v H' A s t nd fr => ?_⟩
  · unfold Rep
    exact ⟨a, rfl, hq⟩
  · cases (show v = V.bl true ∧ _ from t).1
    exact q H'
end L2

/-! ### E11: a new list goes into an owned one -/
namespace L2
open PySem PySem.Spec PyProof.Rows
section
variable {X : Cx} {H0 : Hp} {B0 : Addr → Prop} {fr : Bool} {RX : XR} {e e2 : Expr} {pos ap cp : Pos} {x : Str} {px : Pos} {f g : DE}
def app0N (i : Nat) (f : DE) : SS → Option Out := fun δ => (f (allV δ)).bind fun d => (match δ[i]? with
  | some (some (.ow (.lst ds))) => (appF ds [d]).map fun ds' => .nx ((dropBs i δ).set i (some (.ow (.lst ds'))))
  | _ => none)
def ins0N (i : Nat) (f g : DE) : SS → Option Out := fun δ => (f (allV δ)).bind fun k => if k.imm = true then (g (allV δ)).bind fun d => (match δ[i]? with
  | some (some (.ow (.lst ds))) => (insF ds [k, d]).map fun ds' => .nx ((dropBs i δ).set i (some (.ow (.lst ds'))))
  | _ => none) else none
theorem s_appendN {i : Nat} (hx : PE X (.Name x px) (tVar i)) (he : PN X e f) (hbase : attributeBase (.Name x px) "append" X.env (eval (.Name x px) X.env) = eval (.Name x px) X.env := by rfl)
    (hfew : ((backTo cp (starEach [e] X.env)).all (fun x => !x.1) && (backToKw cp (keywordEach [] X.env)).all (fun x => x.1.isSome) && decide ([e].length + ([] : List Keyword).length + (if ([] : List Keyword).isEmpty then 0 else 1) < 30)) = true := by rfl)
    (hline : (ap.endLine == cp.line) = true := by rfl) (hs : starEach [e] X.env = (false, eval e X.env) :: starEach [] X.env := by rfl) (hsw : swapsWith (.Call (.Attribute (.Name x px) "append" ap) [e] [] cp) none pos.line X.env = pure false := by rfl) :
    PS X (.Expr (.Call (.Attribute (.Name x px) "append" ap) [e] [] cp) pos) (tS X.K H0 B0 fr RX (app0N i f)) :=
  PS.imp (ps_expr (pe_bm PySem.F.plainAttrs_list PySem.F.slot_list_append PySem.F.type_list_append mt_append hx (pa_cons he pa_nil hs) hbase hfew hline hs rfl) hsw) fun D σ H ⟨δ, R, o, rs, q, k⟩ => by
    unfold app0N at q
    cases e1 : f (allV δ) with
    | none => rw [e1] at q; cases q
    | some d =>
    rw [e1] at q
    simp only [Option.bind_some] at q
    split at q
    case h_2 => cases q
    case h_1 =>
    rename_i ds ei
    cases e2 : appF ds [d] with
    | none => rw [e2] at q; cases q
    | some ds' =>
    rw [e2] at q
    cases q
    obtain ⟨a, xs, A, ev, ha, ts, eR, nd⟩ := rs.top ei
    refine ⟨.ref a, ev, .inl ⟨rfl, xs, SqL.of ha⟩, allV δ, d, rs.all, e1, fun y H2 C s2 t2 nC fC => ?_⟩
    show rAppend (.ref a) [y] H2 fun _ H1 => D.nx σ H1
    refine lm_append (K := X.K) H2 a xs ds [d] [y] ds' _ (s2 _ _ ha) ts.length (.one (t2.rep d (fun _ _ z => z.elim))) e2 fun w xs' up => ?_
    obtain ⟨A', t', n', sub⟩ := up H2 A C (ts.mono s2) (.one t2)
    have hAC : (A ++ C).Nodup := List.nodup_append.mpr ⟨(List.nodup_cons.mp nd).2, nC, fun b hb c hc z => by
      subst z
      obtain ⟨u, q, _⟩ := Trees.held ds ts b hb
      rw [fC b hc] at q; cases q⟩
    have P := rs.put0 s2 ei ev eR nd t' (n' hAC) fun b hb => (sub b hb).imp id fun z => fC b z
    exact k σ _ _ P.1 P.2
end
end L2

/-! ### E12: tuple.index -/
namespace L2
open PySem PySem.Spec PyProof.Rows
open PySem.MeetsSeq PySem.MeetsSeq2 PySem.MeetsSeq3 PySem.SeqRoads2 PySem.SeqAt
open PySem.AutoSeq1 (wpAny_loadPart')
section
variable {X : Cx}
variable {o e : Expr} {es : List Expr} {to : TE} {t : TA} {name : Str} {apos cpos : Pos} {id : String} {r : V → List V → Hp → VK → Prop}
end
end L2

/-! ### E13: tuple(range(..)), list(range(..)), int(..) -/
namespace L2
open PySem PySem.Spec PyProof.Rows
open PySem.AutoSeq1 (wpAny_loadPart')
section
variable {prog : Program} {w : World} {A : Around} {E : Value → Shared → Prop} {s : Shared}
end
/-! range(..) as a value -/
section
variable {X : Cx}
/-! as trees -/
def dSmall (g : DS → Option (List D)) : DS → Option (List D) := fun δ => (g δ).bind fun ds => if ds.length ≤ sizeLine then some ds else none
variable {a b : Expr} {f g : DE} {p p2 pos pos2 : Pos}
/-- int(x) -/
def intF : List D → Option D
  | [.int i] => some (.int i)
  | [.bl k] => some (.int (if k then 1 else 0))
  | _ => none
end
end L2

/-! ### E14: enumerate(xs), its pairs taken apart at once -/
namespace L2
open PySem PySem.Spec PyProof.Rows
section
variable {X : Cx} {pins : List (Addr × Obj)} {σ : St} {H : Hp} {s : Shared} {h' : Heap}
end
/-! as trees -/
def enumFrom (k : Nat) : List D → List D
  | [] => []
  | d :: r => .tup [.int (k : Nat), d] :: enumFrom (k + 1) r
def enumS : D → Option (List D)
  | .lst ds => some (enumFrom 0 ds)
  | .scr ns => some (enumFrom 0 (ns.map .int))
  | _ => none
def dEnum (f : DE) : DS → Option (List D) := fun δ => (f δ).bind enumS
section
variable {X : Cx}
/-! [elt for a, b in iter if c] -/
def two (h : D → D → Option (Option D)) : D → Option (Option D)
  | .tup [a, b] => h a b
  | _ => none
def compG (fc : DS → Option Bool) (fe : DE) (δ : DS) : D → D → Option (Option D) := fun a b => (fc (δ ++ [some a, some b])).bind fun k => if k = true then (fe (δ ++ [some a, some b])).map some else some none
def dComp2 (fi : DS → Option (List D)) (fc : DS → Option Bool) (fe : DE) : DS → Option (List D) := fun δ => (fi δ).bind fun xs => if xs.length ≤ sizeLine then compL (two (compG fc fe δ)) xs else none
variable {N' : List Str} {sc : Scope} {iter elt : Expr} {ifs : List Expr} {n : Nat} {x y : Str} {px py tp pos : Pos} {x1 : Nat} {fi : DS → Option (List D)} {fc : DS → Option Bool} {fe : DE}
end
end L2

/-! ### E15: dicts by ints and texts, with items that cannot change -/
namespace L2
open PySem PySem.Spec PyProof.Rows
def keyD : D → Option Key
  | .int n => some (.inl n)
  | .str x => some (.inr x)
  | _ => none
theorem key_rep {K : PySem.W.Frag} {H : Hp} {B : Addr → Prop} {d : D} {k : Key} {v : V} (e : keyD d = some k) (r : Rep K H B d v) : v = kV k := by
  unfold keyD at e
  split at e
  · cases e; unfold Rep at r; exact r
  · cases e; unfold Rep at r; exact r
  · cases e
def valK (ks : List Key) (ds : List D) (k : Key) : Option D := match ks, ds with
  | k' :: ks, d :: ds => if k' = k then some d else valK ks ds k
  | _, _ => none
def setK (ks : List Key) (ds : List D) (k : Key) (d : D) : List D := match ks, ds with
  | k' :: ks, e :: ds => (if k' = k then d else e) :: setK ks ds k d
  | _, _ => []
def hasK (ks : List Key) (k : Key) : Bool := ks.any fun k' => decide (k' = k)
def putKs (ks : List Key) (k : Key) : List Key := if hasK ks k = true then ks else ks ++ [k]
def putDs (ks : List Key) (ds : List D) (k : Key) (d : D) : List D := if hasK ks k = true then setK ks ds k d else ds ++ [d]
theorem any_mem {k : Key} {kvs : List (Key × V)} {ks : List Key} (e : kvs.map (·.1) = ks) : (kvs.any fun kv => decide (kv.1 = k)) = hasK ks k := by
  subst e
  unfold hasK
  rw [List.any_map]
  rfl
theorem val_rep {K : PySem.W.Frag} {H : Hp} {B : Addr → Prop} {k : Key} {d : D} : ∀ {kvs : List (Key × V)} {ks : List Key} {ds : List D}, kvs.map (·.1) = ks → Reps K H B ds (kvs.map (·.2)) → valK ks ds k = some d → ∃ v, valV kvs k = some v ∧ Rep K H B d v
  | [], _, ds, e, _, q => by subst e; unfold valK at q; cases q
  | p :: r, _, [], e, rs, _ => by unfold Reps at rs; cases rs
  | p :: r, _, d' :: ds, e, rs, q => by
    subst e
    unfold Reps at rs
    obtain ⟨x, xs, e1, r1, r2⟩ := rs
    cases e1
    rw [List.map_cons] at q
    unfold valK at q
    by_cases h : p.1 = k
    · rw [if_pos h] at q
      cases q
      exact ⟨p.2, valV_pos h, r1⟩
    · rw [if_neg h] at q
      obtain ⟨v, e2, r3⟩ := val_rep (kvs := r) rfl r2 q
      exact ⟨v, by rw [valV_neg h]; exact e2, r3⟩
theorem val_none {k : Key} {kvs : List (Key × V)} : (valV kvs k).isSome = hasK (kvs.map (·.1)) k := by rw [← valV_any]; exact any_mem rfl
/-! rules -/
def inK : D → D → Option Bool := fun x y => match y with
  | .dct ks _ => (keyD x).map fun k => hasK ks k
  | _ => none
def dDIn (f g : DE) : DS → Option Bool := fun δ => (f δ).bind fun x => (g δ).bind fun y => inK x y
def dDNin (f g : DE) : DS → Option Bool := fun δ => (dDIn f g δ).map (!·)
def getK : D → D → Option D := fun x y => match x with
  | .dct ks ds => (keyD y).bind fun k => valK ks ds k
  | _ => none
section
variable {X : Cx} {a b o i value : Expr} {f g : DE} {pos pos' : Pos}
theorem din_some {δ : DS} {c : Bool} (h : dDIn f g δ = some c) : ∃ x k ks ds, f δ = some x ∧ keyD x = some k ∧ g δ = some (.dct ks ds) ∧ c = hasK ks k := by
  unfold dDIn at h
  cases e1 : f δ with
  | none => rw [e1] at h; cases h
  | some x =>
    rw [e1] at h
    cases e2 : g δ with
    | none => rw [e2] at h; cases h
    | some y =>
      rw [e2] at h
      have h : inK x y = some c := h
      unfold inK at h
      split at h
      · cases e3 : keyD x with
        | none => rw [e3] at h; cases h
        | some k => rw [e3] at h; cases h; exact ⟨x, k, _, _, rfl, e3, rfl, rfl⟩
      · cases h
theorem pt_din (hu : X.A.units + 64 < cLine) (ha : PD X a f) (hb : PD X b g) (hm : behindInMarks .In b = false := by rfl) : PTD X (.Compare a [.In] [b] pos) (dDIn f g) :=
  (pt_cmp (pc_din (by omega) ha hb) hm).imp fun σ H Q ⟨B, δ, c, hB, S, q, k⟩ => by
    obtain ⟨x, ky, ks, ds, e1, e2, e3, rfl⟩ := din_some q
    refine ⟨B, δ, x, hB, S, e1, fun v H1 s1 r1 => ⟨B, δ, _, hB.mono s1, S.mono s1, e3, fun w H2 s2 r2 => ?_⟩⟩
    unfold Rep at r2
    obtain ⟨p, kvs, rfl, n, hp, ek, rs⟩ := r2
    have ev := key_rep e2 r1
    subst ev
    refine ⟨p, valV kvs ky, rfl, DGet.k hp, _, rfl, ?_⟩
    rw [val_none, ek]
    exact k H2 (s1.trans s2)
theorem pd_dget (hu : X.A.units + 64 < cLine) (ha : PD X o f) (hb : PD X i g) (hs : NoSl i := by intro _ _; rfl) : PD X (.Subscript o i pos) (d2 getK f g) :=
  (pe_dget (by omega) ha hb hs).imp fun σ H Q ⟨B, δ, d, hB, S, q, k⟩ => by
    obtain ⟨x, y, e1, e2, e3⟩ := d2_some q
    unfold getK at e3
    split at e3
    case h_2 => cases e3
    case h_1 ks ds =>
    cases e4 : keyD y with
    | none => rw [e4] at e3; cases e3
    | some ky =>
    rw [e4, Option.bind_some] at e3
    refine ⟨B, δ, _, hB, S, e1, fun v H1 s1 r1 => ⟨B, δ, _, hB.mono s1, S.mono s1, e2, fun w H2 s2 r2 => ?_⟩⟩
    unfold Rep at r1
    obtain ⟨p, kvs, rfl, n, hp, ek, rs⟩ := r1
    have ev := key_rep e4 r2
    subst ev
    obtain ⟨v, hv, rv⟩ := val_rep ek rs e3
    exact ⟨p, v, rfl, by rw [← hv]; exact DGet.k (s2 _ _ hp), k _ H2 (s1.trans s2) (rv.mono s2)⟩
variable {H0 : Hp} {B0 : Addr → Prop} {fr : Bool} {RX : XR} {x : Str} {px : Pos} {ke e : Expr}
def dput (i : Nat) (fk fv : DE) : SS → Option Out := fun δ => (fv (allV δ)).bind fun d => if d.imm = true then (fk (allV δ)).bind fun dk => (match keyD dk, δ[i]? with
  | some k, some (some (.ow (.dct ks ds))) => if imms ds = true ∧ ks.length < sizeLine then some (.nx ((dropBs i δ).set i (some (.ow (.dct (putKs ks k) (putDs ks ds k d)))))) else none
  | _, _ => none) else none
end
end L2

/-! ### E16: x[::-1], lists put together, list.index, max, min -/
namespace HT
open PySem PySem.Spec PyProof.Rows
section
variable {prog : Program} {w : World} {A : Around} {E : Value → Shared → Prop} {s : Shared}
end
end HT
namespace L2
open PySem PySem.Spec PyProof.Rows
section
variable {X : Cx} {e st : Expr} {te : TE} {tk : TO} {pos p2 : Pos}
theorem Reps.reverse {K : PySem.W.Frag} {H : Hp} {B : Addr → Prop} : ∀ {ds : List D} {xs : List V}, Reps K H B ds xs → Reps K H B ds.reverse xs.reverse
  | [], _, h => by unfold Reps at h; subst h; exact .nil
  | d :: ds, _, h => by
    unfold Reps at h
    obtain ⟨x, r, rfl, h1, h2⟩ := h
    rw [List.reverse_cons, List.reverse_cons]
    exact (Reps.reverse h2).snoc h1
def revT : D → D → Option D
  | .tup ds, .int k => if k = -1 then some (.tup ds.reverse) else none
  | _, _ => none
def revLs : D → D → Option (List D)
  | .lst ds, .int k => if k = -1 then some ds.reverse else none
  | .scr ns, .int k => if k = -1 then some (ns.map D.int).reverse else none
  | _, _ => none
def dRevL (f g : DE) : DS → Option (List D) := fun δ => (f δ).bind fun x => (g δ).bind fun y => revLs x y
variable {f g : DE}
/-! lists put together -/
variable {a b : Expr}
def catLs : D → D → Option (List D)
  | .lst ds, .lst es => if ds.length + es.length ≤ sizeLine then some (ds ++ es) else none
  | _, _ => none
def dCat (f g : DE) : DS → Option (List D) := fun δ => (f δ).bind fun x => (g δ).bind fun y => catLs x y
theorem pf_cat (ha : PD X a f) (hb : PD X b g) : PF X (.BinOp a .Add b pos) (dCat f g) := (pe_op op_cat ha hb).imp fun σ H Q ⟨B, δ, ds, hB, S, q, k⟩ => by
  unfold dCat at q
  cases e1 : f δ with
  | none => rw [e1] at q; cases q
  | some x =>
  rw [e1, Option.bind_some] at q
  cases e2 : g δ with
  | none => rw [e2] at q; cases q
  | some y =>
  rw [e2, Option.bind_some] at q
  unfold catLs at q
  split at q
  case h_2 => cases q
  case h_1 xs ys =>
  split at q
  case isFalse => cases q
  case isTrue hl =>
  cases q
  refine ⟨B, δ, _, hB, S, e1, fun v H1 s1 r1 => ⟨B, δ, _, hB.mono s1, S.mono s1, e2, fun v2 H2 s2 r2 => ?_⟩⟩
  unfold Rep at r1 r2
  obtain ⟨p1, vs, rfl, n1, h1, rs1⟩ := r1
  obtain ⟨p2, ws, rfl, n2, h2, rs2⟩ := r2
  refine ⟨p1, p2, vs, ws, rfl, rfl, s2 _ _ h1, h2, by rw [← rs1.length, ← rs2.length]; exact hl, fun p hp => ?_⟩
  exact k p _ _ ((s1.trans s2).trans (same_upd hp)) ((s1.trans s2).free hp) upd_same (((rs1.mono s2).append rs2).mono (same_upd hp))
/-! max, min of two ints -/
def maxF : List D → Option D
  | [.int i, .int j] => some (.int (if j > i then j else i))
  | _ => none
variable {p : Pos}
end
end L2

/-! ### E17: list.index; extend, clear of an owned list -/
namespace L2
open PySem PySem.Spec PyProof.Rows
section
variable {X : Cx} {o e : Expr} {apos cpos : Pos}
end
end L2
namespace L2
open PySem PySem.Spec PyProof.Rows
section
variable {X : Cx} {H0 : Hp} {B0 : Addr → Prop} {fr : Bool} {RX : XR} {e : Expr} {pos : Pos} {f : DE}
/-- a call for itself -/
def exprN (f : DE) : SS → Option Out := fun δ => (f (allV δ)).map fun _ => .nx δ
end
end L2

/-! ### E18: range(lo, hi, step); while; x is None -/
namespace L2
open PySem PySem.Spec PyProof.Rows
def cntR (lo hi c : Int) : Nat := if lo < hi then ((hi - lo - 1) / c + 1).toNat else 0
section
variable {X : Cx} {tg : Expr}
theorem Vals.three : ∀ {x y z : V} {us : List Value}, Vals [x, y, z] us → ∃ u v w, us = [u, v, w] ∧ RelV x u ∧ RelV y v ∧ RelV z w
  | _, _, _, _, .cons r (.cons q (.cons p .nil)) => ⟨_, _, _, rfl, r, q, p⟩
def rngC (lo c : Int) (n : Nat) : List D := (List.range n).map fun i => .int (lo + (i : Nat) * c)
def rng3 : Option D → Option D → Option D → Option (List D)
  | some (.int i), some (.int j), some (.int c) => if -(2 ^ 61) ≤ i ∧ i < 2 ^ 61 ∧ -(2 ^ 61) ≤ j ∧ j < 2 ^ 61 ∧ 0 < c ∧ c < 2 ^ 30 then some (rngC i c (cntR i j c)) else none
  | _, _, _ => none
def dRng3 (f g h : DE) : DS → Option (List D) := fun δ => rng3 (f δ) (g δ) (h δ)
end
/-! while -/
section
variable {X : Cx} {H0 : Hp} {B0 : Addr → Prop} {fr : Bool} {RX : XR} {pos : Pos}
/-! x is None -/
def isN : D → Bool
  | .non => true
  | _ => false
theorem rep_isN {K : PySem.W.Frag} {H : Hp} {B : Addr → Prop} {d : D} {v : V} (r : Rep K H B d v) : decide (v = V.non) = isN d := by
  cases d with
  | non => unfold Rep at r; subst r; rfl
  | bl b => unfold Rep at r; subst r; rfl
  | int i => unfold Rep at r; subst r; rfl
  | str x => unfold Rep at r; subst r; rfl
  | lst ds => unfold Rep at r; obtain ⟨a, xs, rfl, _⟩ := r; rfl
  | tup ds => unfold Rep at r; obtain ⟨a, xs, rfl, _⟩ := r; rfl
  | scr ns => unfold Rep at r; obtain ⟨a, rfl, _⟩ := r; rfl
  | dct ks ds => unfold Rep at r; obtain ⟨a, kvs, rfl, _⟩ := r; rfl
  | exc x => unfold Rep at r; obtain ⟨a, C, rfl, _⟩ := r; rfl
  | obj x a ks ds => unfold Rep at r; obtain ⟨C, dx, fs, _, _, ⟨rfl, _⟩, _⟩ := r; rfl
  | cel a ds => unfold Rep at r; obtain ⟨xs, _, _, rfl, _⟩ := r; rfl
def dIsN (f : DE) : DS → Option Bool := fun δ => (f δ).map isN
def dNotN (f : DE) : DS → Option Bool := fun δ => (f δ).map fun d => !isN d
variable {a : Expr} {f : DE}
theorem pt_isNone {j pos'} (ha : PD X a f) (hm : behindInMarks .Is (.Constant .none j pos') = false := by rfl) : PTD X (.Compare a [.Is] [.Constant .none j pos'] pos) (dIsN f) := (pt_cmp (pc_isN ha) hm).imp fun σ H Q ⟨B, δ, c, hB, S, q, k⟩ => by
  unfold dIsN at q
  cases e : f δ with
  | none => rw [e] at q; cases q
  | some d =>
    rw [e] at q
    cases q
    refine ⟨B, δ, d, hB, S, e, fun v H1 s1 r1 => ⟨_, rfl, ?_⟩⟩
    rw [rep_isN r1]
    exact k H1 s1
end
end L2

/-! ### E19: x is True; xs.clear(), xs.extend(..); sorted of ints -/
namespace L2
open PySem PySem.Spec PyProof.Rows
section
variable {X : Cx} {a b : Expr} {f g : DE} {pos : Pos}
def isB : D → D → Option D
  | .bl c, .bl d => some (.bl (c == d))
  | _, _ => none
def notB : D → D → Option D
  | .bl c, .bl d => some (.bl (c != d))
  | _, _ => none
variable {H0 : Hp} {B0 : Addr → Prop} {fr : Bool} {RX : XR} {x : Str} {px ap cp : Pos} {e : Expr}
def clr0 (i : Nat) : SS → Option Out := fun δ => match δ[i]? with
  | some (some (.ow (.lst _))) => some (.nx ((dropBs i δ).set i (some (.ow (.lst [])))))
  | _ => none
def ext0N (i : Nat) (f : DE) : SS → Option Out := fun δ => (f (allV δ)).bind fun d => (match d, δ[i]? with
  | .lst es, some (some (.ow (.lst ds))) => if ds.length + es.length ≤ sizeLine then some (.nx ((dropBs i δ).set i (some (.ow (.lst (ds ++ es)))))) else none
  | _, _ => none)
end
end L2

/-! ### E20: sorted of ints -/
namespace L2
open PySem PySem.Spec PyProof.Rows
def insS (x : Int) : List Int → List Int
  | [] => [x]
  | y :: r => if x ≤ y then x :: y :: r else y :: insS x r
def srtI : List Int → List Int
  | [] => []
  | x :: r => insS x (srtI r)
section
variable {prog : Program} {w : World} {A : Around} {E : Value → Shared → Prop} {s : Shared}
end
section
variable {X : Cx}
variable {e : Expr} {f : DE} {p pos : Pos}
end
end L2

/-! ### E21: list(reversed(xs)), xs a list -/
namespace L2
open PySem PySem.Spec PyProof.Rows
section
variable {prog : Program} {w : World} {A : Around} {s : Shared} {R : Result → Shared → Prop}
variable {I : Addr} {fp wr : List Addr} {G : Array GenState → Array GenState → Prop} {n : Nat} {P : Nat → Value → Prop} {St : Nat → Shared → Prop}
end
section
variable {prog : Program} {w : World} {A : Around} {E : Value → Shared → Prop} {s : Shared}
end
section
variable {X : Cx}
def revF : List D → Option (List D)
  | [.lst ds] => some ds.reverse
  | _ => none
end
end L2

/-! ### E22: an exception passes a frame: what is left as it was -/
namespace L2
open PySem PySem.Spec PyProof.Rows
/-- the exception at e of the class cls, its newest traceback entry at T -/
def Thr (h : Heap) (e T : Addr) (cls : Value) : Prop := ∃ oe vs oT ts, h.get? e = some oe ∧ oe.cls = cls ∧ oe.data = .fields vs ∧ vs[1]? = some (.ref T) ∧ T ≠ e ∧ h.get? T = some oT ∧ oT.data = .fields ts ∧ ts[3]? = some .none ∧ oe.dict = none
/-- a new exception, no traceback yet -/
def Thr0 (h : Heap) (e : Addr) (cls : Value) : Prop := ∃ oe vs, h.get? e = some oe ∧ oe.cls = cls ∧ oe.data = .fields vs ∧ vs[1]? = some .none ∧ oe.dict = none
structure Gone (S ch : List Addr) (e : Addr) (cls : Value) (h h' : Heap) : Prop where
  keep : ∀ b o, b ∉ S → b ∉ ch → h.get? b = some o → h'.get? b = some o
  slot : ∀ b o, b ∈ S → b ∉ ch → h.get? b = some o → ∃ sl, h'.get? b = some { o with slots := sl }
  there : ∀ b o, h.get? b = some o → ∃ o', h'.get? b = some o'
  thr : ∃ T, h.objs.size ≤ T ∧ Thr h' e T cls
section
variable {M : Model} {A : Around} {E : Value → Shared → Prop} {s : Shared}
theorem dict_map {o : Obj} {f : Array Value → Array Value} (h : o.dict = none) : (Obj.mapFields f o).dict = none := by
  unfold Obj.mapFields
  split <;> exact h
theorem note_new {base : Heap} {env : Env} {outer : List Env} {L e : Addr} {oe : Obj} {vs : Array Value} {head : Value} {hadNext : Bool} {Q : Unit → Shared → Prop}
    (hfr : A.frames = some (env :: outer)) (hl : s.heap.FunFrames base (env :: outer)) (hf : env.frame = some L)
    (he : s.heap.get? e = some oe) (hd : oe.data = .fields vs) (hsz : 1 < vs.size) (hdn : oe.dict = none)
    (h : ∀ h', Gone (frs (env :: outer)) [e] e oe.cls s.heap h' → Q () { s with heap := h' }) :
    wpAny M A (do let a ← frameOf env; let pl ← entryPlaceOf L hadNext; let b ← EntryCells.newEntry head a .none (rawInt L) .none pl; setField (.ref e) 1 b) (fun _ s' => wpAny M A (setFlight (.ref e) none) Q E s') E s := by
  have hene : e ∉ frs (env :: outer) := fun hm => by
    obtain ⟨_, o, ho, hnf⟩ := hl.mem hm
    rw [he] at ho; injection ho with ho; subst ho; exact hnf vs hd
  refine wpAny_bind (wpAny_frameOf_fun hfr hl hf fun h₁ hs₁ => ?_)
  refine wpAny_bind (wpAny_entryPlaceOf fun pl hpl => ?_)
  unfold EntryCells.newEntry newFields
  refine wpAny_bind (wpAny_newObj_type ?_ (hpl.sizeOk5 _ _ _ _ _))
  have he₁ : h₁.get? e = some oe := (hs₁.2.1 e hene).trans he
  generalize hob : ({ cls := .type "traceback", dict := none, data := .fields ([head, .ref L, .none, rawInt L, .none] ++ (if pl.isEmpty then List.replicate 6 Value.none else pl)).toArray } : Obj) = ob
  have hobd : ob.data = .fields ([head, .ref L, .none, rawInt L, .none] ++ (if pl.isEmpty then List.replicate 6 Value.none else pl)).toArray := by rw [← hob]
  have hobf : ob.isFreed = false := by rw [← hob]; rfl
  have he₂ := Heap.get?_push_of_some (h := h₁) ob he₁
  refine wpAny_setField he₂ hd hsz ?_
  have hTe : h₁.objs.size ≠ e := Nat.ne_of_gt (Heap.lt_size he₁)
  have hd₃ := Obj.data_mapFields hd (·.setIfInBounds 1 (Value.ref h₁.objs.size))
  have he₃ := Heap.get?_update_self (Obj.mapFields (·.setIfInBounds 1 (Value.ref h₁.objs.size))) he₂ (Obj.isFreed_of_fields hd₃)
  have hT₃ := (Heap.get?_update_other (h₁.push ob) (Obj.mapFields (·.setIfInBounds 1 (Value.ref h₁.objs.size))) (Ne.symm hTe)).trans (Heap.get?_push_size h₁ hobf)
  unfold setFlight
  refine wpAny_bind (wpAny_field he₃ hd₃ (x := .ref h₁.objs.size) (by simp [hsz]) ?_)
  rw [if_pos (show (Value.ref h₁.objs.size != Value.none) = true from by simp)]
  refine wpAny_setField hT₃ hobd (by simp only [List.size_toArray, List.length_append, List.length_cons, List.length_nil] <;> omega) (h _ ?_)
  have keep : ∀ b o, b ≠ e → h₁.get? b = some o →
      (((h₁.push ob).update e (Obj.mapFields (·.setIfInBounds 1 (Value.ref h₁.objs.size)))).update h₁.objs.size (Obj.mapFields (·.setIfInBounds 3 ((none : Option Addr).elim Value.none fun f => rawInt f)))).get? b = some o := fun b o hbe hb => by
    have hbT : h₁.objs.size ≠ b := Nat.ne_of_gt (Heap.lt_size hb)
    rw [Heap.get?_update_other _ _ hbT, Heap.get?_update_other _ _ (Ne.symm hbe)]
    exact Heap.get?_push_of_some _ hb
  have heF : (((h₁.push ob).update e (Obj.mapFields (·.setIfInBounds 1 (Value.ref h₁.objs.size)))).update h₁.objs.size (Obj.mapFields (·.setIfInBounds 3 ((none : Option Addr).elim Value.none fun f => rawInt f)))).get? e = some (Obj.mapFields (·.setIfInBounds 1 (Value.ref h₁.objs.size)) oe) := by
    rw [Heap.get?_update_other _ _ hTe]; exact he₃
  refine ⟨fun b o hb hc e1 => ?_, fun b o hb hc e1 => ?_, fun b o e1 => ?_, h₁.objs.size, ?_, ?_⟩
  · exact keep b o (fun z => hc (by simp [z])) ((hs₁.2.1 b hb).trans e1)
  · obtain ⟨sl, e2⟩ := hs₁.2.2 b o e1
    exact ⟨sl, keep b _ (fun z => hc (by simp [z])) e2⟩
  · by_cases hb : b = e
    · exact ⟨Obj.mapFields (·.setIfInBounds 1 (Value.ref h₁.objs.size)) oe, by rw [hb]; exact heF⟩
    · obtain ⟨sl, e2⟩ := hs₁.2.2 b o e1
      exact ⟨_, keep b _ hb e2⟩
  · rw [hs₁.1]
    exact Nat.le_refl _
  · exact ⟨_, _, _, _, heF, Obj.cls_mapFields _ _, hd₃, by simp [hsz], hTe, Heap.get?_update_self _ hT₃ (Obj.isFreed_of_fields (Obj.data_mapFields hobd _)), Obj.data_mapFields hobd _, by first | (simp; done) | (rcases hpl with rfl | ⟨_, _, _, _, _, _, _, rfl⟩ <;> simp), dict_map hdn⟩
theorem note_first {base : Heap} {env : Env} {outer : List Env} {L e : Addr} {cls : Value} {Q : Unit → Shared → Prop}
    (hfr : A.frames = some (env :: outer)) (hl : s.heap.FunFrames base (env :: outer)) (hf : env.frame = some L) (ht : Thr0 s.heap e cls)
    (h : ∀ h', Gone (frs (env :: outer)) [e] e cls s.heap h' → Q () { s with heap := h' }) : wpAny M A (noteFrame (.ref e) env) (fun _ s' => wpAny M A (setFlight (.ref e) none) Q E s') E s := by
  obtain ⟨oe, vs, he, rfl, hd, h1, hdn⟩ := ht
  unfold noteFrame
  simp only [hf]
  refine wpAny_bind (wpAny_field he hd h1 ?_)
  rw [if_neg (by decide)]
  exact note_new hfr hl hf he hd (Array.getElem?_eq_some_iff.mp h1).1 hdn h
theorem note_next {base : Heap} {env : Env} {outer : List Env} {L e T : Addr} {cls : Value} {Q : Unit → Shared → Prop}
    (hfr : A.frames = some (env :: outer)) (hl : s.heap.FunFrames base (env :: outer)) (hf : env.frame = some L) (ht : Thr s.heap e T cls)
    (h : ∀ h', Gone (frs (env :: outer)) [e, T] e cls s.heap h' → Q () { s with heap := h' }) : wpAny M A (noteFrame (.ref e) env) (fun _ s' => wpAny M A (setFlight (.ref e) none) Q E s') E s := by
  obtain ⟨oe, vs, oT, ts, he, rfl, hd, h1, hTe, hT, hdT, h3, hdn⟩ := ht
  unfold noteFrame
  simp only [hf]
  refine wpAny_bind (wpAny_field he hd h1 ?_)
  rw [if_pos (show (Value.ref T != Value.none) = true from by simp)]
  refine wpAny_bind (wpAny_field hT hdT h3 ?_)
  rw [if_neg (show ¬ ((Value.none == rawInt L) = true) from by simp [rawInt])]
  refine wpAny_bind (wpAny_setField hT hdT (Array.getElem?_eq_some_iff.mp h3).1 ?_)
  have other : ∀ b, b ≠ T → (s.heap.update T (Obj.mapFields (·.setIfInBounds 3 Value.none))).get? b = s.heap.get? b := fun b hb => Heap.get?_update_other _ _ (Ne.symm hb)
  have noRecord : ∀ b o, s.heap.get? b = some o → (∀ vs, o.data ≠ .fields vs) → b ≠ T := fun b o hb hnf q => by
    rw [q, hT] at hb; injection hb with hb; subst hb; exact hnf ts hdT
  refine note_new hfr (hl.of_keeps fun b o hb hnf => ⟨o, (other b (noRecord b o hb hnf)).trans hb, rfl⟩) hf ((other e (Ne.symm hTe)).trans he) hd (Array.getElem?_eq_some_iff.mp h1).1 hdn fun h' G => h h' ?_
  refine ⟨fun b o hb hc e1 => G.keep b o hb (fun z => hc (List.mem_cons.mpr (.inl (List.mem_singleton.mp z)))) ((other b fun z => hc (by simp [z])).trans e1), fun b o hb hc e1 => G.slot b o hb (fun z => hc (List.mem_cons.mpr (.inl (List.mem_singleton.mp z)))) ((other b fun z => hc (by simp [z])).trans e1), fun b o e1 => ?_, ?_⟩
  · by_cases hb : b = T
    · have e2 : (s.heap.update T (Obj.mapFields (·.setIfInBounds 3 Value.none))).get? b = some (Obj.mapFields (·.setIfInBounds 3 Value.none) oT) := by
        rw [hb]
        exact Heap.get?_update_self _ hT (Obj.isFreed_of_fields (Obj.data_mapFields hdT _))
      exact G.there b _ e2
    · exact G.there b o ((other b hb).trans e1)
  · obtain ⟨T', h1, h2⟩ := G.thr
    exact ⟨T', by rwa [Heap.size_after_update] at h1, h2⟩
theorem leaving_eq {env : Env} {e : Value} {Q : Unit → Shared → Prop} (h : wpAny M A (noteFrame e env) (fun _ s' => wpAny M A (setFlight e none) Q E s') E s) : wpAny M A (leaving env e) Q E s := by
  unfold leaving
  exact wpAny_bind h
end
end L2

/-! ### E23: an exception leaves a def, and passes its callers -/
namespace L2
open PySem PySem.Spec PyProof.Rows
theorem ObjOk.some {P : Program} {w : World} {H : Hp} {h : Heap} {a : Addr} {o : HO} (x : ObjOk P w H h a o) : ∃ ob, h.get? a = Option.some ob := by
  cases q : h.get? a with
  | some ob => exact ⟨ob, rfl⟩
  | none =>
    have y : ObjOk P w H h a o := x
    induction o with
    | lst xs => obtain ⟨_, _, _, _, e⟩ := x; rw [q] at e; cases e
    | tup xs => obtain ⟨_, _, _, _, e, _⟩ := x; rw [q] at e; cases e
    | dK kvs => obtain ⟨_, _, _, _, _, _, _, e, _⟩ := x; rw [q] at e; cases e
    | dT kvs => obtain ⟨_, _, _, _, _, _, _, e, _⟩ := x; rw [q] at e; cases e
    | set S n => obtain ⟨_, _, _, _, e, _⟩ := x; rw [q] at e; cases e
    | ins C dx fs => obtain ⟨_, _, _, e, _⟩ := x; rw [q] at e; cases e
    | own y => obtain ⟨_, e⟩ := x; rw [q] at e; cases e
    | xd fs => obtain ⟨_, ⟨_, _, _, e, _⟩, _⟩ := x; rw [q] at e; cases e
    | met f y => have e := x; unfold ObjOk at e; rw [q] at e; cases e
    | rng lo hi => obtain ⟨_, _, _, e⟩ := x; rw [q] at e; cases e
    | frz ob u ih => have e := x.1; rw [q] at e; cases e
    | tbl ps => have e := x; unfold ObjOk at e; rw [q] at e; cases e
    | ext φ => obtain ⟨_, ⟨_, e⟩, _⟩ := x; rw [q] at e; cases e
section
variable {X : Cx} {pins : List (Addr × Obj)} {σ : St} {H : Hp} {s : Shared}
/-- a record of ours that is not tracked and was not there at the entry -/
def FpX (X : Cx) (pins : List (Addr × Obj)) (H : Hp) (b : Addr) : Prop :=
  H b = none ∧ b ≠ X.env.locals ∧ (b ∈ X.ex ∨ X.s₀.heap.get? b = none) ∧ (∀ x c, X.env.cells.lookup x = some c → c ≠ b) ∧ ∀ p ∈ X.pn ++ pins, p.1 ≠ b
theorem Inv.fpX {H' : Hp} {b : Addr} (I : Inv X pins σ H s) (hb : s.heap.get? b = none) (hn : H' b = none) : FpX X pins H' b := by
  refine ⟨hn, fun z => ?_, ?_, fun x c e z => ?_, fun p hp z => ?_⟩
  · obtain ⟨m, ⟨o, _, _, ho, _⟩, _⟩ := I.loc
    rw [← z, hb] at ho
    cases ho
  · by_cases hx : b ∈ X.ex
    · exact .inl hx
    · refine .inr ?_
      cases q : X.s₀.heap.get? b with
      | none => rfl
      | some o =>
        obtain ⟨o', e⟩ := I.base.there b o q hx
        rw [hb] at e
        cases e
  · obtain ⟨v, o, ho, _⟩ := I.cell x c e
    rw [z, hb] at ho
    cases ho
  · have := (I.pin p hp).1
    rw [z, hb] at this
    cases this
theorem Inv.fresh0 {b : Addr} (I : Inv X pins σ H s) (hb : s.heap.get? b = none) : H b = none := by
  cases q : H b with
  | none => rfl
  | some u =>
    obtain ⟨o, e⟩ := (I.hok b u q).some
    rw [hb] at e
    cases e
theorem Inv.gone3 {ch : List Addr} {h' : Heap} (I : Inv X pins σ H s) (gk : ∀ b o, b ∉ frs X.stack → b ∉ ch → s.heap.get? b = some o → h'.get? b = some o) (gs : ∀ b o, b ∈ frs X.stack → b ∉ ch → s.heap.get? b = some o → ∃ sl, h'.get? b = some { o with slots := sl }) (gt : ∀ b o, s.heap.get? b = some o → ∃ o', h'.get? b = some o') (hch : ∀ b ∈ ch, FpX X pins H b) : Inv X pins σ H { s with heap := h' } := by
  have nS : ∀ b u, H b = some u → b ∉ frs X.stack := fun b u q z => by rw [I.stkFree b z] at q; cases q
  have nC : ∀ b u, H b = some u → b ∉ ch := fun b u q z => by rw [(hch b z).1] at q; cases q
  have hok : HOk X.prog X.w H h' := fun b u q => (I.hok b u q).stay (fun c v hc e => by
    rcases hc with rfl | z
    · exact gk _ v (nS _ u q) (nC _ u q) e
    · exact gk c v (nS c _ z) (nC c _ z) e) (fun _ q => q) fun _ _ q => q
  have any : ∀ b o, b ∉ ch → s.heap.get? b = some o → ∃ sl, h'.get? b = some { o with slots := sl } := fun b o hc q => by
    by_cases hb : b ∈ frs X.stack
    · exact gs b o hb hc q
    · exact ⟨o.slots, gk b o hb hc q⟩
  have new : ∀ b o, X.s₀.heap.get? b = some o → b ∉ X.ex → b ∉ ch := fun b o q hx z => by
    rcases (hch b z).2.2.1 with y | y
    · exact hx y
    · rw [y] at q; cases q
  have kp : ∀ b o, b ≠ X.env.locals → b ∉ X.fs → b ∉ ch → s.heap.get? b = some o → h'.get? b = some o := fun b o hL hb hc q =>
    gk b o (fun z => (List.mem_cons.mp (I.stkSub b z)).elim hL hb) hc q
  have old : ∀ b o, X.s₀.heap.get? b = some o → b ≠ X.env.locals := fun b o q => Nat.ne_of_lt (Nat.lt_of_lt_of_le (Heap.lt_size q) I.ok.above)
  have cellK : ∀ x c, X.env.cells.lookup x = some c → ∀ v, s.heap.IsCell c v → h'.IsCell c v := fun x c q v ⟨o, ho, hd⟩ => by
    obtain ⟨sl, y⟩ := any c o (fun z => (hch c z).2.2.2.1 x c q rfl) ho
    exact ⟨_, y, hd⟩
  refine ⟨I.ok, I.os, I.bare, ⟨?_, ?_, fun b o q n hx => I.base.free b o q n hx, ?_, I.base.tups, I.base.frzs, I.base.tbls⟩, ?_, ?_, I.free, I.freeC, ?_, hok, I.len⟩
  · exact fun b o q n hb hx => kp b o (old b o q) hb (new b o q hx) (I.base.keep b o q n hb hx)
  · intro b o q n hb hx
    obtain ⟨sl, q1⟩ := I.base.slot b o q n hb hx
    obtain ⟨sl', q2⟩ := any b _ (new b o q hx) q1
    exact ⟨sl', q2⟩
  · intro b o q hx
    obtain ⟨o', q1⟩ := I.base.there b o q hx
    exact gt b o' q1
  · obtain ⟨m, ⟨o, es, ep, ho, r⟩, hl⟩ := I.loc
    obtain ⟨sl, hL⟩ := any _ o (fun z => (hch _ z).2.1 rfl) ho
    refine ⟨m, ⟨_, es, ep, hL, r⟩, fun i x v e1 e2 e3 => ?_⟩
    obtain ⟨u, r, l⟩ := hl i x v e1 e2 e3
    exact ⟨u, r, l.imp id fun ⟨k, c, q, z⟩ => ⟨k, c, q, cellK x c q _ z⟩⟩
  · intro x c q
    obtain ⟨v, z⟩ := I.cell x c q
    exact ⟨v, cellK x c q v z⟩
  · intro p hp
    obtain ⟨q, n, ne, nf, d⟩ := I.pin p hp
    exact ⟨kp p.1 p.2 ne nf (fun z => (hch p.1 z).2.2.2.2 p hp rfl) q, n, ne, nf, d⟩
theorem Inv.gone {ch : List Addr} {e : Addr} {cls : Value} {h' : Heap} (I : Inv X pins σ H s) (G : Gone (frs X.stack) ch e cls s.heap h') (hch : ∀ b ∈ ch, FpX X pins H b) : Inv X pins σ H { s with heap := h' } := I.gone3 G.keep G.slot G.there hch
end
/-- an exception behind a call: its object, its newest traceback entry (both new, neither tracked), its class -/
def CXE (P : Program) (w : World) : CXT := fun outer H s E e s' => ∃ (ea T : Addr) (cls : Value) (H' : Hp), e = .ref ea ∧ s'.os = s.os ∧ AllBare s'.gens ∧ Un (frs outer) [] H H' s.heap s'.heap ∧ HOk P w H' s'.heap ∧
  s.heap.get? ea = none ∧ s.heap.get? T = none ∧ H' ea = none ∧ H' T = none ∧ Thr s'.heap ea T cls ∧ E cls none H'
section
variable {P : Program} {w : World} {K : PySem.W.Frag} {mg : Str → Option Value} {base : Heap} {N : List Str} {qual : Str} {scope : Scope} {f : Addr} {cd : Value} {A : Around} {outer : List Env} {s : Shared} {H : Hp} {E : XK}
/-- a new exception leaves the def in which it was raised -/
theorem raise_out {pins : List (Addr × Obj)} {σ : St} {H1 : Hp} {s1 : Shared} {e : Addr} {cls : Value} (I : Inv (cxOf (CXE P w) P w K mg base N qual scope f cd A outer s H E) pins σ H1 s1)
    (hf : FpX (cxOf (CXE P w) P w K mg base N qual scope f cd A outer s H E) pins H1 e) (ht : Thr0 s1.heap e cls) (hE : E cls none H1) : (cxOf (CXE P w) P w K mg base N qual scope f cd A outer s H E).xe (.ref e) s1 := by
  refine leaving_eq (note_first (base := base) (outer := outer) I.ok.frames I.stack rfl ht fun h' G => ?_)
  have I' := I.gone G fun b hb => by rw [List.mem_singleton.mp hb]; exact hf
  obtain ⟨T, hT, th⟩ := G.thr
  have he : s.heap.get? e = none := by
    rcases hf.2.2.1 with z | z
    · exact absurd (show e ∈ ([] : List Addr) from z) (by simp)
    · exact z
  exact ⟨e, T, cls, H1, rfl, I'.os, I'.bare, I'.base, I'.hok, he, Heap.get?_none_of_le (Nat.le_trans I.sz hT), hf.1, I.hok.fresh hT, th, hE⟩
end
end L2

/-! ### E24: raise C(e) -/
namespace L2
open PySem PySem.Spec PyProof.Rows
section
variable {X : Cx} {x : Str} {C : Addr} {B Bn newId nid initId inN : String} {bm bmN : List Value} {np cpos pos : Pos} {e₀ : Expr} {te : TE}
def tRaise (te : TE) (R : St → Hp → Prop) : TS := fun _ σ H => te σ H fun _ H1 => R σ H1
/-- what is wanted of a new exception of the class at C, where the slots and the heap are such that R -/
def Want (X : Cx) (C : Addr) (R : St → Hp → Prop) : Prop := ∀ (pins : List (Addr × Obj)) (σ : St) (H : Hp) (s : Shared) (e : Addr), Inv X pins σ H s → FpX X pins H e → Thr0 s.heap e (.ref C) → R σ H → X.xe (.ref e) s
theorem ps_raise {R : St → Hp → Prop} (hc : X.calm = true) (hg : Gl X x) (O : OwnCls x C bm newId X.mg X.base) (Fn : ExcBaseFacts Bn newId inN bmN) (hBn : bm.contains (.type Bn) = true) (FB : ExcBaseFacts B nid initId bm) (hW : Want X C R) (h : PE X e₀ te)
    (he : starEach [e₀] X.env = [(false, eval e₀ X.env)] := by rfl) (hd : (x == ("__debug__" : Str)) = false := by decide) : PS X (.Raise (some (.Call (.Name x np) [e₀] [] cpos)) none pos) (tRaise te R) := by
  intro pins s σ H D I hq
  obtain ⟨tl, N, nm, q, bs, hdct, sn, sub, ab, col, dd, k0, k1, k2, k3, k5, mN, hC, hN, hni, T⟩ := O.obj
  refine wpAny_Raise_call_subU (C := C) (nm := nm) (q := q) (N := N) (bs := bs) (bm := tl) (hdct := hdct) (sn := sn) (sub := sub) (ab := ab) (col := col) (dd := dd) (k0 := k0) (k1 := k1) (k2 := k2) (k3 := k3) (k5 := k5)
    Fn hBn FB (mN := mN) (T.hasType FB.hasBase) (I.ok.hd hc) (by rw [he]; rfl) hni (ld_glob I hg O.bound ⟨rfl, ?_⟩ hd)
  have ha := (pa_cons h pa_nil he) cpos pins s σ H (fun vs H1 => match vs with
    | [_] => R σ H1
    | _ => False) I hq
  rw [he] at ha ⊢
  refine Calls.evalArgs_plain (thn ha fun us s2 ⟨vs, H2, I2, r2, q2⟩ => ?_)
  cases r2 with
  | nil => exact (show False from q2).elim
  | cons r r3 =>
    cases r3 with
    | cons _ _ => exact (show False from q2).elim
    | nil =>
      refine ⟨rfl, by show 1 ≤ sizeLine; rw [sizeLine_eq]; omega, I2.bk _ _ hC, hN.keeps I2.bk, T.keeps I2.bk, fun h' e hm => ?_⟩
      obtain ⟨t, he', _⟩ := hm.there
      have I3 : Inv X pins σ H2 { s2 with heap := h' } := I2.kept (t' := s2.toks) hm.keeps
      exact hW pins σ H2 _ e I3 (I2.fpX hm.new (I2.fresh0 hm.new)) ⟨_, _, he', rfl, rfl, rfl, rfl⟩ q2
variable {H0 : Hp} {B0 : Addr → Prop} {fr : Bool} {RX : XR}
def raiseO (c : Nat) (f : DE) : SS → Option Out := fun δ => (f (allV δ)).map fun _ => .ex c δ
theorem s_raise {c : Nat} {f : DE} (hc : X.calm = true) (hg : Gl X x) (O : OwnCls x C bm newId X.mg X.base) (Fn : ExcBaseFacts Bn newId inN bmN) (hBn : bm.contains (.type Bn) = true) (FB : ExcBaseFacts B nid initId bm) (hW : Want X C (RX c)) (h : PD X e₀ f)
    (he : starEach [e₀] X.env = [(false, eval e₀ X.env)] := by rfl) (hd : (x == ("__debug__" : Str)) = false := by decide) : PS X (.Raise (some (.Call (.Name x np) [e₀] [] cpos)) none pos) (tS X.K H0 B0 fr RX (raiseO c f)) :=
  PS.imp (ps_raise hc hg O Fn hBn FB hW h he hd) fun D σ H ⟨δ, R, o, rs, q, k⟩ => by
    unfold raiseO at q
    cases e : f (allV δ) with
    | none => rw [e] at q; cases q
    | some d =>
      rw [e] at q
      cases q
      exact ⟨noB, allV δ, d, .no, rs.all, e, fun v H1 s1 r1 => k σ H1 R (rs.mono s1) (.same s1)⟩
end
end L2

/-! ### E25: defs that may raise -/
namespace L2
open PySem PySem.Spec PyProof.Rows
inductive XO where
  | val (d : D) | exc (c : Nat)
def spX (K : PySem.W.Frag) (cl : Nat → Value) (m : List D → Option XO) : Sp := fun vs H Q E => ∃ ds o, Reps K H noB ds vs ∧ m ds = some o ∧ (match o with
  | .val d => ∀ v H' A, Same H H' → Tree K H' d v A → A.Nodup → (∀ a ∈ A, H a = none) → Q v H'
  | .exc c => ∀ H', Same H H' → E (cl c) none H')
def runX (np nl : Nat) (g : SS → Option Out) : List D → Option XO := fun ds => if ds.length = np then (match g (ds.map (fun d => some (.sh d)) ++ List.replicate nl none) with
  | some (.rt d) => some (.val d)
  | some (.nx _) => some (.val .non)
  | some (.ex c _) => some (.exc c)
  | _ => none) else none
theorem runX_len {np nl : Nat} {g : SS → Option Out} {ds : List D} {o : XO} (h : runX np nl g ds = some o) : ds.length = np := by
  unfold runX at h
  split at h
  · assumption
  · cases h
/-- the wish of a def that may raise -/
abbrev defRX (cl : Nat → Value) (E : XK) : XR := fun c _ H1 => E (cl c) none H1
section
variable {P : Program} {w : World} {K : PySem.W.Frag} {mg : Str → Option Value} {base : Heap}
theorem fnX {x qual : Str} {st : Stmt} {f : Addr} {fd : FuncData} {N ps : List Str} {k np nl : Nat} {g : SS → Option Out} {cl : Nat → Value} (F : Fun K x qual st f fd) (S : FnScope N ps (defScope st)) (hnp : ps.length = np) (hN : N.length = np + nl)
    (hbody : ∀ (cdv : Value) (A : Around) (outer : List Env) (s : Shared) (H : Hp) (E : XK), Room k (A.deeper (envOfC qual (defScope st) s.heap.objs.size f cdv)) →
      PSs (cxOf (CXE P w) P w K mg base N qual (defScope st) f cdv A outer s H E) (defBody st) (tS K H noB true (defRX cl E) g)) : FnOk P w K mg base (CXE P w) (k + 1) f fd ps (spX K cl (runX np nl g)) := by
  obtain ⟨oc, od, kV, doc, pm, an, cdv, ct, osl, rfl, lk, hcd⟩ := F.ex
  refine fn_of lk hcd S (fun vs H Q E h => ?_) fun A outer s H vs Q E hr h => ?_
  · obtain ⟨ds, o, r, e, _⟩ := h
    rw [← r.length, runX_len e, hnp]
  · obtain ⟨ds, o, r, e, kk⟩ := h
    refine ⟨_, hbody cdv A outer s H E hr, ?_⟩
    have hl := runX_len e
    unfold runX at e
    rw [if_pos hl] at e
    have rs := rs_start (nl := nl) .no r (N := N) (by omega)
    split at e
    · rename_i d' eg
      cases e
      exact ⟨_, _, _, rs, eg, fun v H' z _ => by
        obtain ⟨A', t, nd, fr⟩ := z.2.1 rfl
        exact kk v H' A' z.1 t nd fr⟩
    · rename_i δ' eg
      cases e
      exact ⟨_, _, _, rs, eg, fun σ' H' R' rs' _ => kk .non H' [] rs'.keep ⟨rfl, rfl⟩ List.nodup_nil (fun a z => nomatch z)⟩
    · rename_i c δ' eg
      cases e
      exact ⟨_, _, _, rs, eg, fun σ' H' R' rs' _ => kk H' rs'.keep⟩
    · cases e
structure DefX (P : Program) (w : World) (K : PySem.W.Frag) (mg : Str → Option Value) (base : Heap) (k : Nat) (x : Str) (sp : Sp) : Prop where
  ok : ∃ (f : Addr) (fd : FuncData) (ps : List Str), mg x = some (.ref f) ∧ PySem.W.keepIn K (.ref f) = true ∧ Binds K fd ps [] ∧ FnOk P w K mg base (CXE P w) k f fd ps sp
/-- what is wanted of an exception that a callee lets pass -/
def XW (X : Cx) (cl : Nat → Value) (RX : XR) : Prop := ∀ (pins : List (Addr × Obj)) (σ : St) (H : Hp) (s : Shared) (ea T : Addr) (c : Nat), Inv X pins σ H s → FpX X pins H ea → FpX X pins H T → Thr s.heap ea T (cl c) → RX c σ H → X.xe (.ref ea) s
theorem xw_def {N : List Str} {qual : Str} {scope : Scope} {f : Addr} {cd : Value} {A : Around} {outer : List Env} {s : Shared} {H : Hp} {E : XK} {cl : Nat → Value} : XW (cxOf (CXE P w) P w K mg base N qual scope f cd A outer s H E) cl (defRX cl E) := by
  intro pins σ H1 s1 ea T c I fe fT th hE
  refine leaving_eq (note_next (base := base) (outer := outer) I.ok.frames I.stack rfl th fun h' G => ?_)
  have I' := I.gone G fun b hb => by
    rcases List.mem_cons.mp hb with rfl | hb
    · exact fe
    · rw [List.mem_singleton.mp hb]; exact fT
  obtain ⟨T', hT, th'⟩ := G.thr
  have he : s.heap.get? ea = none := by
    rcases fe.2.2.1 with z | z
    · exact absurd (show ea ∈ ([] : List Addr) from z) (by simp)
    · exact z
  exact ⟨ea, T', cl c, H1, rfl, I'.os, I'.bare, I'.base, I'.hok, he, Heap.get?_none_of_le (Nat.le_trans I.sz hT), fe.1, I.hok.fresh hT, th', hE⟩
theorem want_def {N : List Str} {qual : Str} {scope : Scope} {f C : Addr} {cd : Value} {A : Around} {outer : List Env} {s : Shared} {H : Hp} {E : XK} {cl : Nat → Value} {c : Nat} (hc : cl c = .ref C) : Want (cxOf (CXE P w) P w K mg base N qual scope f cd A outer s H E) C (defRX cl E c) :=
  fun pins σ H1 s1 e I hf ht hE => raise_out I hf ht (by rw [← hc]; exact hE)
end
section
variable {X : Cx} {k : Nat} {f : Addr} {fd : FuncData} {ps : List Str} {sp : Sp} {cl : Nat → Value} {RX : XR}
theorem run_fnX {pins : List (Addr × Obj)} {σ : St} {H : Hp} {s : Shared} {Q : VK} {us : List Value} {vs : List V} (F : FnOk X.prog X.w X.K X.mg X.base (CXE X.prog X.w) k f fd ps sp) (hr : Room k X.A) (hb : Binds X.K fd ps []) (hW : XW X cl RX)
    (I : Inv X pins σ H s) (r : Vals vs us) (h : sp vs H Q (fun cls _ H' => ∃ c, cls = cl c ∧ RX c σ H')) : wpAny (model X.prog X.w) X.A (call (.ref f) us) (EP X pins σ Q) X.xe s := by
  have hl : us.length = ps.length := by rw [← r.length]; exact F.len _ _ _ _ h
  have hb' := hb s us I.kIn (by rw [List.append_nil]; exact hl)
  rw [List.append_nil] at hb'
  refine wpAny_call (codeAny_mono (F.run X.A X.stack s H ⟨us, []⟩ us vs Q _ hr I.env0 hb' r h) fun r s' hq => ?_)
  cases r with
  | error e =>
    obtain ⟨ea, T, cls, H', rfl, os, bare, un, hok, h1, h2, h3, h4, th, c, rfl, rx⟩ := hq
    exact hW pins σ H' s' ea T c (I.call' os un hok bare fun b hb => nomatch hb) (I.fpX h1 h3) (I.fpX h2 h4) th rx
  | ok fl =>
    cases fl with
    | ret u => exact I.after hq
    | next => exact False.elim hq
    | brk => exact False.elim hq
    | cont => exact False.elim hq
end
end L2

/-! ### E26: a call that may raise, as a whole statement -/
namespace L2
open PySem PySem.Spec PyProof.Rows
section
variable {X : Cx} {k : Nat} {sp : Sp} {cl : Nat → Value} {RX : XR} {x : Str} {p pos pos2 : Pos} {e : Expr} {es : List Expr} {t : TA}
def tCallX (cl : Nat → Value) (RX : XR) (sp : Sp) (t : TA) : TE := fun σ H Q => t σ H fun vs H1 => sp vs H1 Q fun cls _ H' => ∃ c, cls = cl c ∧ RX c σ H'
theorem pe_callX (G : DefX X.prog X.w X.K X.mg X.base k x sp) (hr : Room k X.A) (hg : Gl X x) (hW : XW X cl RX) (ha : PA X (e :: es) t) (hdb : (x == ("__debug__" : Str)) = false := by decide)
    (he : starEach (e :: es) X.env = (false, eval e X.env) :: starEach es X.env := by rfl) (hpl : (backTo pos (starEach es X.env)).any (·.1) = false := by rfl) : PE X (.Call (.Name x p) (e :: es) [] pos) (tCallX cl RX sp t) := by
  obtain ⟨f, fd, ps, hm, hk, hb, ok⟩ := G.ok
  intro pins s σ H Q I h
  refine wpAny_Call_Name_kw (ld_glob I hg hm ?_ hdb)
  refine PySem.W.callWith_K (h₀ := X.base) I.ok.mod.kin hk (thn (ha pos pins s σ H _ I h) fun us s1 ⟨vs, H1, I1, r, q⟩ => ⟨I1.kIn, ?_⟩) he hpl
  exact run_fnX ok hr hb hW I1 r q
/-- the reading of such a call by trees -/
def tX (K : PySem.W.Frag) (RX : XR) (F : DS → Option XO) : TE := fun σ H Q => ∃ δ o, RepS K H noB σ δ ∧ F δ = some o ∧ (match o with
  | .val d => ∀ v H' A, Same H H' → Tree K H' d v A → A.Nodup → (∀ a ∈ A, H a = none) → Q v H'
  | .exc c => ∀ H', Same H H' → RX c σ H')
def dCallX (m : List D → Option XO) (fl : List DE) : DS → Option XO := fun δ => (dArgs fl δ).bind m
theorem px_call {m : List D → Option XO} {fl : List DE} (G : DefX X.prog X.w X.K X.mg X.base k x (spX X.K cl m)) (hr : Room k X.A) (hg : Gl X x) (hW : XW X cl RX) (ha : PAD X (e :: es) fl) (hdb : (x == ("__debug__" : Str)) = false := by decide)
    (he : starEach (e :: es) X.env = (false, eval e X.env) :: starEach es X.env := by rfl) (hpl : (backTo pos (starEach es X.env)).any (·.1) = false := by rfl) : PE X (.Call (.Name x p) (e :: es) [] pos) (tX X.K RX (dCallX m fl)) :=
  (pe_callX G hr hg hW ha hdb he hpl).imp fun σ H Q ⟨δ, o, S, q, kk⟩ => by
    unfold dCallX at q
    cases e1 : dArgs fl δ with
    | none => rw [e1] at q; cases q
    | some ds =>
      rw [e1, Option.bind_some] at q
      refine ⟨noB, δ, ds, .no, S, e1, fun vs H1 s1 r1 => ⟨ds, o, r1, q, ?_⟩⟩
      cases o with
      | val d => exact fun v H' A s' t nd fr => kk v H' A (s1.trans s') t nd fun a ha => s1.free (fr a ha)
      | exc c => exact fun H' s' => ⟨c, rfl, kk H' (s1.trans s')⟩
variable {H0 : Hp} {B0 : Addr → Prop} {fr : Bool} {F : DS → Option XO}
def retX (F : DS → Option XO) : SS → Option Out := fun δ => (F (allV δ)).map fun o => match o with
  | .val d => .rt d
  | .exc c => .ex c δ
def exprX (F : DS → Option XO) : SS → Option Out := fun δ => (F (allV δ)).map fun o => match o with
  | .val _ => .nx δ
  | .exc c => .ex c δ
def asgX (i : Nat) (F : DS → Option XO) : SS → Option Out := fun δ => (F (allV δ)).map fun o => match o with
  | .val d => .nx (δ.set i (some (.ow d)))
  | .exc c => .ex c δ
theorem s_retX (h : PE X e (tX X.K RX F)) : PS X (.Return (some e) pos) (tS X.K H0 B0 fr RX (retX F)) := PS.imp (ps_ret h) fun D σ H ⟨δ, R, o, rs, q, k⟩ => by
  unfold retX at q
  cases e1 : F (allV δ) with
  | none => rw [e1] at q; cases q
  | some o1 =>
    rw [e1] at q
    refine ⟨allV δ, o1, rs.all, e1, ?_⟩
    cases o1 with
    | val d =>
      cases q
      exact fun v H' A s t nd fr' => k v H' ⟨rs.keep.trans s, fun _ => ⟨A, t, nd, fun a z => rs.keep.free (fr' a z)⟩, fun _ => t.rep d fun a z => rs.inB.fresh (rs.keep.free (fr' a z))⟩ fun a z => s.free z
    | exc c =>
      cases q
      exact fun H' s => k σ H' R (rs.mono s) (.same s)
theorem s_exprX (h : PE X e (tX X.K RX F)) (hs : swapsWith e none pos.line X.env = pure false := by rfl) : PS X (.Expr e pos) (tS X.K H0 B0 fr RX (exprX F)) := PS.imp (ps_expr h hs) fun D σ H ⟨δ, R, o, rs, q, k⟩ => by
  unfold exprX at q
  cases e1 : F (allV δ) with
  | none => rw [e1] at q; cases q
  | some o1 =>
    rw [e1] at q
    refine ⟨allV δ, o1, rs.all, e1, ?_⟩
    cases o1 with
    | val d =>
      cases q
      exact fun v H' A s t nd fr' => k σ H' R (rs.mono s) (Stp.same s)
    | exc c =>
      cases q
      exact fun H' s => k σ H' R (rs.mono s) (.same s)
end
end L2

/-! ### E27: except C: suite -/
namespace L2
open PySem PySem.Spec PyProof.Rows
/-- within an except suite; no exception leaves it -/
abbrev Cx.suite (X : Cx) (e : Value) : Cx := { X with A := X.A.mark (some e), calm := false, xe := fun _ _ => False }
section
variable {X : Cx} {pins : List (Addr × Obj)} {σ : St} {H : Hp} {s : Shared} {e : Value}
theorem Cx.Ok.suite (ok : X.Ok) (e : Value) : (X.suite e).Ok :=
  ⟨ok.mod, ok.kind, ok.glob, ok.blt, ok.above, ok.inj, ok.has, ok.cab, (fun z => Bool.noConfusion z), ok.frames, ok.stk, ok.exf, ok.bs, ok.bsz, ok.noex, ok.exfs, ok.funs, ok.frf⟩
theorem Cx.Ok.unsuite (ok : X.Ok) (o2 : (X.suite e).Ok) : X.Ok := ok
theorem Inv.suite (I : Inv X pins σ H s) (e : Value) : Inv (X.suite e) pins σ H s := ⟨I.ok.suite e, I.os, I.bare, I.base, I.loc, I.cell, I.free, I.freeC, I.pin, I.hok, I.len⟩
theorem Inv.unsuite (ok : X.Ok) (I : Inv (X.suite e) pins σ H s) : Inv X pins σ H s := ⟨ok, I.os, I.bare, I.base, I.loc, I.cell, I.free, I.freeC, I.pin, I.hok, I.len⟩
theorem SP.unsuite {D : Ends} {f : Flow} {s' : Shared} (ok : X.Ok) (h : SP (X.suite e) pins D f s') : SP X pins D f s' := by
  cases f with
  | next => obtain ⟨σ', H', I, q⟩ := h; exact ⟨σ', H', I.unsuite ok, q⟩
  | brk => obtain ⟨σ', H', I, q⟩ := h; exact ⟨σ', H', I.unsuite ok, q⟩
  | cont => obtain ⟨σ', H', I, q⟩ := h; exact ⟨σ', H', I.unsuite ok, q⟩
  | ret u => obtain ⟨v, σ', H', I, r, q⟩ := h; exact ⟨v, σ', H', I.unsuite ok, r, q⟩
end
theorem flight_same {M : Model} {A : Around} {E : Value → Shared → Prop} {s : Shared} {e T : Addr} {cls : Value} {Q : Unit → Shared → Prop} (th : Thr s.heap e T cls) (h : ∀ h', (∀ b o, s.heap.get? b = some o → h'.get? b = some o) → Q () { s with heap := h' }) : wpAny M A (setFlight (.ref e) none) Q E s := by
  obtain ⟨oe, vs, oT, ts, he, _, hd, h1, hTe, hT, hdT, h3, hdn⟩ := th
  unfold setFlight
  refine wpAny_bind (wpAny_field he hd h1 ?_)
  rw [if_pos (show (Value.ref T != Value.none) = true from by simp)]
  refine wpAny_setField hT hdT (Array.getElem?_eq_some_iff.mp h3).1 (h _ fun b o q => ?_)
  by_cases hb : b = T
  · subst hb
    rw [hT] at q
    cases q
    have e1 := Heap.get?_update_self (Obj.mapFields (·.setIfInBounds 3 ((none : Option Addr).elim Value.none fun f => rawInt f))) hT (Obj.isFreed_of_fields (Obj.data_mapFields hdT _))
    rw [e1]
    congr 1
    obtain ⟨c, d, dt, sl⟩ := oT
    have hdT : dt = .fields ts := hdT
    subst hdT
    obtain ⟨hlt, h3⟩ := Array.getElem?_eq_some_iff.mp h3
    have z : ts.setIfInBounds 3 Value.none = ts := by
      apply Array.ext_getElem?
      intro i
      by_cases hi : 3 = i
      · subst hi
        rw [Array.getElem?_setIfInBounds_self_of_lt hlt, Array.getElem?_eq_getElem hlt, h3]
      · rw [Array.getElem?_setIfInBounds_ne hi]
    show Obj.mk c d (.fields (ts.setIfInBounds 3 Value.none)) sl = _
    rw [z]
  · exact (Heap.get?_update_other _ _ (Ne.symm hb)).trans q
section
variable {X : Cx} {cls : Value} {x : Str} {C : Addr} {np hpos : Pos} {b₀ : Stmt} {suite : List Stmt} {rest : List ExceptHandler} {t : TS}
def PH (X : Cx) (hs : List ExceptHandler) (cls : Value) (t : TS) : Prop := ∀ (pins : List (Addr × Obj)) (s : Shared) (σ : St) (H : Hp) (D : Ends) (ea T : Addr), Inv X pins σ H s → FpX X pins H ea → Thr s.heap ea T cls → t D σ H → wpAny (model X.prog X.w) X.A (handleBy (.ref ea) X.env hs) (SP X pins D) X.xe s
theorem thr_ty {M : Model} {h : Heap} {ea T : Addr} (th : Thr h ea T cls) : PySem.W.Looks M h (typeOf (.ref ea)) cls := by
  obtain ⟨oe, vs, oT, ts, he, rfl, _⟩ := th
  exact (PySem.W.Looks.ld he).andThen .now
end
end L2

/-! ### E28: try: .. except ..: -/
namespace L2
open PySem PySem.Spec PyProof.Rows
/-- the body of a try: its pins are the context's, its exceptions go to xe -/
abbrev Cx.tried (X : Cx) (pn : List (Addr × Obj)) (xe : Value → Shared → Prop) : Cx := { X with pn := pn, xe := xe }
section
variable {X : Cx} {pins pn : List (Addr × Obj)} {xe : Value → Shared → Prop} {σ : St} {H : Hp} {s : Shared}
theorem Cx.Ok.tried (ok : X.Ok) : (X.tried pn xe).Ok :=
  ⟨ok.mod, ok.kind, ok.glob, ok.blt, ok.above, ok.inj, ok.has, ok.cab, ok.hd, ok.frames, ok.stk, ok.exf, ok.bs, ok.bsz, ok.noex, ok.exfs, ok.funs, ok.frf⟩
theorem Inv.tried (I : Inv X pins σ H s) : Inv (X.tried (X.pn ++ pins) xe) [] σ H s := ⟨I.ok.tried, I.os, I.bare, I.base, I.loc, I.cell, I.free, I.freeC, fun p hp => I.pin p (by simpa using hp), I.hok, I.len⟩
theorem Inv.untried {more : List (Addr × Obj)} (ok : X.Ok) (I : Inv (X.tried (X.pn ++ pins) xe) more σ H s) : Inv X pins σ H s := ⟨ok, I.os, I.bare, I.base, I.loc, I.cell, I.free, I.freeC, fun p hp => I.pin p (List.mem_append.mpr (.inl hp)), I.hok, I.len⟩
theorem FpX.untried {more : List (Addr × Obj)} {b : Addr} (h : FpX (X.tried (X.pn ++ pins) xe) more H b) : FpX X pins H b := ⟨h.1, h.2.1, h.2.2.1, h.2.2.2.1, fun p hp => h.2.2.2.2 p (List.mem_append.mpr (.inl hp))⟩
theorem SP.untried {more : List (Addr × Obj)} {D : Ends} {f : Flow} {s' : Shared} (ok : X.Ok) (h : SP (X.tried (X.pn ++ pins) xe) more D f s') : SP X pins D f s' := by
  cases f with
  | next => obtain ⟨σ', H', I, q⟩ := h; exact ⟨σ', H', I.untried ok, q⟩
  | brk => obtain ⟨σ', H', I, q⟩ := h; exact ⟨σ', H', I.untried ok, q⟩
  | cont => obtain ⟨σ', H', I, q⟩ := h; exact ⟨σ', H', I.untried ok, q⟩
  | ret u => obtain ⟨v, σ', H', I, r, q⟩ := h; exact ⟨v, σ', H', I.untried ok, r, q⟩
end
def tryO (gb : SS → Option Out) (gh : Nat → SS → Option Out) : SS → Option Out := fun δ => (gb δ).bind fun o => match o with
  | .nx δ' => some (.nx δ')
  | .ct δ' => some (.ct δ')
  | .bk δ' => some (.bk δ')
  | .rt d => some (.rt d)
  | .rb d δ' => some (.rb d δ')
  | .ex c δ' => gh c δ'
section
variable {X : Cx} {H0 : Hp} {B0 : Addr → Prop} {fr : Bool} {RX : XR} {cl : Nat → Value} {body : List Stmt} {h₀ : ExceptHandler} {hs : List ExceptHandler} {pos : Pos}
theorem ph_never {g : SS → Option Out} {cls : Value} (hg : ∀ δ, g δ = none) {ks : List ExceptHandler} : PH X ks cls (tS X.K H0 B0 fr RX g) := by
  intro pins s σ H D ea T I fe th ⟨δ, R, o, _, q, _⟩
  rw [hg] at q
  cases q
theorem s_try {gb : SS → Option Out} {gh : Nat → SS → Option Out} (hst : X.stack = X.env :: X.outer) (hfr : X.env.frame = some X.env.locals)
    (hb : ∀ (pn : List (Addr × Obj)) (xe : Value → Shared → Prop) (RX' : XR), XW (X.tried pn xe) cl RX' → PSs (X.tried pn xe) body (tS X.K H0 B0 fr RX' gb))
    (hh : ∀ c, PH X (h₀ :: hs) (cl c) (tS X.K H0 B0 fr RX (gh c))) : PS X (.Try body (h₀ :: hs) [] [] pos) (tS X.K H0 B0 fr RX (tryO gb gh)) := by
  intro pins s σ H D I ⟨δ, R, o, rs, q, k⟩
  unfold tryO at q
  cases e1 : gb δ with
  | none => rw [e1] at q; cases q
  | some o1 =>
    rw [e1, Option.bind_some] at q
    refine wpAny_Try_except ?_
    have ok := I.ok
    let XE : Value → Shared → Prop := fun e s₁ => wpAny (model X.prog X.w) X.A (noteFrame e X.env) (fun _ s₂ => wpAny (model X.prog X.w) X.A (setFlight e none) (fun _ s₃ => wpAny (model X.prog X.w) X.A (handleBy e X.env (h₀ :: hs)) (SP X pins D) X.xe s₃) X.xe s₂) X.xe s₁
    have hW : XW (X.tried (X.pn ++ pins) XE) cl (fun c σ' H' => tS X.K H0 B0 fr RX (gh c) D σ' H') := by
      intro pins' σ' H' s' ea T c I' fe fT th hR
      have I2 : Inv X pins σ' H' s' := I'.untried ok
      have hf2 := ok.frames
      have hs2 := I2.stack
      rw [hst] at hf2 hs2
      refine note_next (base := X.base) (outer := X.outer) hf2 hs2 hfr th fun h' G => ?_
      rw [← hst] at G
      have I3 := I2.gone G fun b hb => by
        rcases List.mem_cons.mp hb with rfl | hb
        · exact fe.untried
        · rw [List.mem_singleton.mp hb]; exact fT.untried
      obtain ⟨T', _, th'⟩ := G.thr
      exact hh c pins _ σ' H' D ea T' I3 fe.untried th' hR
    have run := hb (X.pn ++ pins) XE _ hW [] s σ H D I.tried ⟨δ, R, o1, rs, e1, by
      cases o1 with
      | nx δ' => cases q; exact k
      | ct δ' => cases q; exact k
      | bk δ' => cases q; exact k
      | rt d => cases q; exact k
      | rb d δ' => cases q; exact k
      | ex c δ' => exact fun σ' H' R' rs' s' => ⟨δ', R', o, rs', q, k.back s'⟩⟩
    refine wpAny_mono run (fun f s₁ z => ?_) fun _ _ z => z
    have z := z.untried ok
    cases f with
    | next => exact wpAny_execs_nil z
    | brk => exact z
    | cont => exact z
    | ret u => exact z
end
end L2

/-! ### E29: x = y, where y owns its list and is not read again ahead of its next assignment -/
namespace L2
open PySem PySem.Spec PyProof.Rows
section
variable {K : PySem.W.Frag} {H0 H : Hp} {B0 : Addr → Prop} {σ : St} {δ : SS} {R : Nat → List Addr}
def movS (i j : Nat) (d : D) (δ : SS) : SS := ((dropBs j δ).set j none).set i (some (.ow d))
end
section
variable {X : Cx} {H0 : Hp} {B0 : Addr → Prop} {fr : Bool} {RX : XR} {pos : Pos} {st : Stmt}
def movO (i j : Nat) : SS → Option Out := fun δ => match δ[j]? with
  | some (some (.ow d)) => some (.nx (movS i j d δ))
  | _ => none
end
end L2

/-! ### E30: for x in reversed(xs), xs a list; a def that is never come to -/
namespace L2
open PySem PySem.Spec PyProof.Rows
section
variable {X : Cx}
end
def revS : D → Option (List D)
  | .lst ds => some ds.reverse
  | _ => none
def dRevS (f : DE) : DS → Option (List D) := fun δ => (f δ).bind revS
section
variable {X : Cx}
end
end L2

/-! ### E31: loops that only look: for x in xs: if ..: return .. (xs may be owned, and stays so) -/
namespace L2
open PySem PySem.Spec PyProof.Rows
def chkIf (fc : DS → Option Bool) (fe : DE) : DS → Option (Option D) := fun δ => (fc δ).bind fun b => if b = true then (fe δ).bind fun d => if d.imm = true then some (some d) else none else some none
def chkSeq (f g : DS → Option (Option D)) : DS → Option (Option D) := fun δ => (f δ).bind fun o => match o with
  | none => g δ
  | some d => some (some d)
section
variable {X : Cx} {c e : Expr} {fc : DS → Option Bool} {fe : DE} {f g : DS → Option (Option D)} {st : Stmt} {sts : List Stmt} {p1 pos : Pos}
end
def chkD (i : Nat) (fb : DS → Option (Option D)) : List D → SS → Option Out
  | [], δ => some (.nx δ)
  | x :: r, δ => (fb (allV (δ.set i (some (.sh x))))).bind fun o => match o with
    | none => chkD i fb r (δ.set i (some (.sh x)))
    | some d => if d.imm = true then some (.rt d) else none
def forC (i : Nat) (fi : DS → Option (List D)) (fb : DS → Option (Option D)) : SS → Option Out := fun δ => (fi (allV δ)).bind fun ds => if imms ds = true then chkD i fb ds δ else none
section
variable {X : Cx} {H0 : Hp} {B0 : Addr → Prop} {fr : Bool} {RX : XR} {pos : Pos}
end
end L2

/-! ### E32: classes of the program under ValueError -/
namespace L2
open PySem PySem.Spec PyProof.Rows
abbrev bmVE : List Value := [.type "ValueError", .type "Exception", .type "BaseException", .type "object"]
theorem own_mk {K : PySem.W.Frag} {h : Heap} {mg : Str → Option Value} {x : Str} {C : Addr} {bl : List Value} {nid : String} (X : K.In h) (G : h.Ns mainGlobals mg) (ha : PySem.W.nsIn K mainGlobals x = some (some (.ref C))) (hq : PySem.W.excIn K C bl nid = true) : OwnCls x C bl nid mg h := by
  refine ⟨PySem.W.mg_of X G ha, ?_⟩
  unfold PySem.W.excIn at hq
  cases hk : K.lookup C with
  | none => rw [hk] at hq; cases hq
  | some ob =>
    rw [hk] at hq
    have hat := X _ _ hk
    split at hq
    case h_2 => cases hq
    case h_1 od cls sl z =>
      cases z
      split at hq
      case h_2 => cases hq
      case h_1 C1 tl b0 b1 b2 b3 n b5 em es =>
        simp only [Bool.and_eq_true, beq_iff_eq, Bool.not_eq_true'] at hq
        obtain ⟨⟨⟨⟨⟨z1, z2⟩, z3⟩, z4⟩, z5⟩, z6⟩ := hq
        cases cls with
        | mk nm bs mro ns qn hd sn sub ab col del =>
          cases sl with
          | mk l =>
            dsimp only at em es z3 z5 z6
            rw [em, es, z3, z1, z2] at hat
            exact ⟨tl, ns, nm, qn, bs, hd, sn, sub, ab, col, od, b0, b1, b2, b3, b5, _, hat, .of_isNs (PySem.W.isNs_of_in X z5), PySem.W.nsMap_none_of_in X z5 z6, PySem.W.tail_of_in X z4⟩
section
variable {X : Cx} {x : Str} {C : Addr} {np cpos pos : Pos} {e₀ : Expr} {H0 : Hp} {B0 : Addr → Prop} {fr : Bool} {RX : XR}
theorem s_raiseV {c : Nat} {f : DE} (hc : X.calm = true) (hg : Gl X x) (O : OwnCls x C bmVE "ValueError.__new__" X.mg X.base) (hW : Want X C (RX c)) (h : PD X e₀ f)
    (he : starEach [e₀] X.env = [(false, eval e₀ X.env)] := by rfl) (hd : (x == ("__debug__" : Str)) = false := by decide) : PS X (.Raise (some (.Call (.Name x np) [e₀] [] cpos)) none pos) (tS X.K H0 B0 fr RX (raiseO c f)) :=
  s_raise hc hg O PySem.F.excBase_ValueError (by decide) PySem.F.excBase_ValueError hW h he hd
end
end L2

/-! ### E33: a call that may raise, where it does not -/
namespace L2
open PySem PySem.Spec PyProof.Rows
def valO : Option XO → Option D
  | some (.val d) => some d
  | _ => none
def dCallV (m : List D → Option XO) (fl : List DE) : DE := fun δ => valO (dCallX m fl δ)
section
variable {X : Cx} {k : Nat} {cl : Nat → Value} {x : Str} {p pos : Pos} {e : Expr} {es : List Expr}
theorem xw_no : XW X cl noX := fun _ _ _ _ _ _ _ _ _ _ _ h => h.elim
theorem pn_callX {m : List D → Option XO} {fl : List DE} (G : DefX X.prog X.w X.K X.mg X.base k x (spX X.K cl m)) (hr : Room k X.A) (hg : Gl X x) (ha : PAD X (e :: es) fl) (hdb : (x == ("__debug__" : Str)) = false := by decide)
    (he : starEach (e :: es) X.env = (false, eval e X.env) :: starEach es X.env := by rfl) (hpl : (backTo pos (starEach es X.env)).any (·.1) = false := by rfl) : PN X (.Call (.Name x p) (e :: es) [] pos) (dCallV m fl) :=
  (px_call (RX := noX) G hr hg xw_no ha hdb he hpl).imp fun σ H Q ⟨δ, d, S, q, kk⟩ => by
    unfold dCallV at q
    cases e1 : dCallX m fl δ with
    | none => rw [e1] at q; cases q
    | some o =>
      rw [e1] at q
      cases o with
      | exc c => cases q
      | val d' =>
        cases q
        exact ⟨δ, .val d, S, e1, kk⟩
end
end L2

/-! ### E34: except C as e; isinstance(e, C) -/
namespace L2
open PySem PySem.Spec PyProof.Rows
section
variable {X : Cx} {pins : List (Addr × Obj)} {σ : St} {H : Hp} {s : Shared}
/-- an object of ours that was not tracked comes to be -/
theorem Inv.adopt {a : Addr} {u : HO} (I : Inv X pins σ H s) (fa : FpX X pins H a) (new : ObjOk X.prog X.w (upd H a u) s.heap a u) : Inv X pins σ (upd H a u) s := by
  have ne : ∀ b w, H b = some w → b ≠ a := fun b w q z => by rw [z, fa.1] at q; cases q
  have up : ∀ b w, H b = some w → upd H a u b = some w := fun b w q => by rw [upd_ne (ne b w q)]; exact q
  have dn : ∀ b, b ≠ a → H b = none → upd H a u b = none := fun b hb q => by rw [upd_ne hb]; exact q
  refine ⟨I.ok, I.os, I.bare, ⟨I.base.keep, I.base.slot, fun b o q n hx => dn b (fun z => ?_) (I.base.free b o q n hx), I.base.there, fun b xs q => up b _ (I.base.tups b xs q), fun b o w q => up b _ (I.base.frzs b o w q), fun b ps q => ?_⟩, I.loc, I.cell, dn _ (Ne.symm fa.2.1) I.free, fun x c q => dn c (fa.2.2.2.1 x c q) (I.freeC x c q), fun p hp => ?_, fun b w q => ?_, I.len⟩
  · rcases fa.2.2.1 with y | y
    · exact hx (z ▸ y)
    · rw [z, y] at q; cases q
  · obtain ⟨more, q'⟩ := I.base.tbls b ps q
    exact ⟨more, up b _ q'⟩
  · obtain ⟨e1, e2, e3⟩ := I.pin p hp
    exact ⟨e1, dn p.1 (fa.2.2.2.2 p hp) e2, e3⟩
  · by_cases hb : b = a
    · subst hb
      rw [upd_same] at q
      cases q
      exact new
    · rw [upd_ne hb] at q
      exact (I.hok b w q).stay (fun _ _ _ e => e) (fun c z => up c _ z) fun c xs z => up c _ z
/-- a local name goes -/
theorem gone_ok {M : Model} {A : Around} {E : Value → Shared → Prop} {i : Nat} {x : Str} {pos : Pos} {Q : Unit → Shared → Prop} (I : Inv X pins σ H s) (hN : X.N.Nodup) (hi : X.N[i]? = some x) (hk : X.env.scope.names.lookup x = some .local)
    (h : ∀ s', Inv X pins (σ.set i none) H s' → Q () s') : wpAny M A (do bindName X.env x .none; unbindBehindTheSuite X.env x pos) Q E s := by
  obtain ⟨m, hn, hl⟩ := id I.loc
  have hcl : (X.env.scope.kind == .class || (X.env.scope.kind == .module && X.env.locals != X.env.globals)) = false := by rw [I.ok.kind]; rfl
  refine wpAny_nameGoes_keeps hk hn hcl fun g v hg hs => h _ ?_
  have old : ∀ b o, X.s₀.heap.get? b = some o → b ≠ X.env.locals := fun b o q => Nat.ne_of_lt (Nat.lt_of_lt_of_le (Heap.lt_size q) I.ok.above)
  refine ⟨I.ok, I.os, I.bare, ⟨fun b o q n hb hx => (hs.2 b (old b o q)).trans (I.base.keep b o q n hb hx), fun b o q n hb hx => ?_, I.base.free, fun b o q hx => ?_, I.base.tups, I.base.frzs, I.base.tbls⟩, ⟨_, hg, fun j y w e1 e2 e3 => ?_⟩, fun y c q => ?_, I.free, I.freeC, fun p hp => ?_, fun b w q => ?_, by simpa using I.len⟩
  · obtain ⟨sl, q1⟩ := I.base.slot b o q n hb hx
    exact ⟨sl, (hs.2 b (old b o q)).trans q1⟩
  · obtain ⟨o', q1⟩ := I.base.there b o q hx
    exact ⟨o', (hs.2 b (old b o q)).trans q1⟩
  · have hji : j ≠ i := fun z => by
      subst z
      rw [List.getElem?_set] at e2
      simp only [if_true] at e2
      split at e2 <;> cases e2
    rw [List.getElem?_set_ne (Ne.symm hji)] at e2
    obtain ⟨u', r', q⟩ := hl j y w e1 e2 e3
    refine ⟨u', r', ?_⟩
    have hyx : y ≠ x := fun z => hji (nodup_ix hN e1 (z ▸ hi))
    rcases q with ⟨k, q⟩ | ⟨k, c, q, z⟩
    · exact .inl ⟨k, by simp [hyx, q]⟩
    · exact .inr ⟨k, c, q, z.sameBut hs (I.cne y c q)⟩
  · obtain ⟨w', z⟩ := I.cell y c q
    exact ⟨w', z.sameBut hs (I.cne y c q)⟩
  · obtain ⟨q, n, ne, nf, d⟩ := I.pin p hp
    exact ⟨(hs.2 p.1 ne).trans q, n, ne, nf, d⟩
  · refine (I.hok b w q).stay (fun c o hc e => (hs.2 c fun z => ?_).trans e) (fun _ z => z) fun _ _ z => z
    subst z
    rcases hc with z | z
    · rw [← z, I.free] at q; cases q
    · rw [I.free] at z; cases z
end
/-- a suite that has the exception under a name -/
def tAs (i : Nat) (C : Addr) (t : TS) : TS := fun D σ H => ∀ a, H a = none → t ⟨fun σ' H' => D.nx (σ'.set i none) H', D.rt, fun σ' H' => D.bk (σ'.set i none) H', fun σ' H' => D.ct (σ'.set i none) H'⟩ (σ.set i (some (.ref a))) (upd H a (.ext (isX a C)))
section
variable {X : Cx} {x n : Str} {C Ca : Addr} {np hpos : Pos} {b₀ : Stmt} {suite : List Stmt} {rest : List ExceptHandler} {t : TS} {i : Nat}
theorem ph_as (hg : Gl X x) (hm : X.mg x = some (.ref C)) (hx : PySem.W.exmOne X.K (.ref Ca) (.ref C) = some true) (hN : X.N.Nodup) (hi : X.N[i]? = some n) (hk : X.env.scope.names.lookup n = some .local) (hb : ∀ e, PSs (X.suite e) (b₀ :: suite) t) (hdb : (x == ("__debug__" : Str)) = false := by decide) :
    PH X (.ExceptHandler (some (.Name x np)) (some n) (b₀ :: suite) hpos :: rest) (.ref Ca) (tAs i Ca t) := by
  intro pins s σ H D ea T I fe th h
  refine wpAny_handleBy_cons (codeAny_handlers_test (ld_glob (I.suite (.ref ea)) hg hm ?_ hdb)) (by intro q; cases q)
  refine (PySem.W.exm_one I.kIn (thr_ty th) hx).here ?_
  obtain ⟨oe, vs, oT, ts, he, hc, hd, _, _, _, _, _, hdn⟩ := id th
  refine codeAny_handlers_suite_as (flight_same th fun h' kp => ?_)
  have I1 : Inv X pins σ H { s with heap := h' } := I.kept (t' := s.toks) kp
  have hO : ObjOk X.prog X.w (upd H ea (.ext (isX ea Ca))) h' ea (.ext (isX ea Ca)) := by
    refine ⟨⟨oe, kp _ _ he, hc, hdn, by unfold PySem.W.notCls; rw [hd]⟩, ⟨oe, kp _ _ he⟩, fun h1 h2 z k => ?_⟩
    obtain ⟨o, z1, z2⟩ := z
    exact ⟨o, k o z1, z2⟩
  have I2 := I1.adopt fe hO
  refine store_ok I2 hN hi (.inl hk) (v := .ref ea) rfl (fun s2 I3 => ?_) (.inr hk)
  refine wpAny_mono (hb (.ref ea) pins s2 _ _ _ (I3.suite (.ref ea)) (h ea fe.1)) (fun f s3 q => ?_) fun _ _ z => z.elim
  have q := q.unsuite I.ok
  cases f with
  | next => obtain ⟨σ', H', J, q⟩ := q; exact gone_ok J hN hi hk fun s4 J4 => ⟨_, H', J4, q⟩
  | brk => obtain ⟨σ', H', J, q⟩ := q; exact gone_ok J hN hi hk fun s4 J4 => ⟨_, H', J4, q⟩
  | cont => obtain ⟨σ', H', J, q⟩ := q; exact gone_ok J hN hi hk fun s4 J4 => ⟨_, H', J4, q⟩
  | ret u => obtain ⟨v, σ', H', J, r, q⟩ := q; exact gone_ok J hN hi hk fun s4 J4 => ⟨v, _, H', J4, r, q⟩
end
section
variable {K : PySem.W.Frag} {H0 H : Hp} {B0 : Addr → Prop} {σ : St} {δ : SS} {R : Nat → List Addr}
theorem RS.unset {i : Nat} (h : RS K H0 B0 H σ δ R) : RS K H0 B0 H (σ.set i none) (δ.set i none) R := by
  have gs : ∀ {j : Nat} {y : SD}, (δ.set i none)[j]? = some (some y) → j ≠ i ∧ δ[j]? = some (some y) := fun {j y} e => by
    rcases get_set e with ⟨_, q, _⟩ | q
    · cases q
    · exact q
  have up : ∀ {j : Nat} {w : V}, j ≠ i → σ[j]? = some (some w) → (σ.set i none)[j]? = some (some w) := fun hj e => by rw [List.getElem?_set_ne (Ne.symm hj)]; exact e
  refine ⟨h.keep, h.inB, by simp [h.len], h.new, h.held, h.disj, fun j d z => ?_, fun j r d z => ?_, fun j d z => ?_⟩
  · obtain ⟨hj, q⟩ := gs z
    obtain ⟨v, e, r⟩ := h.sh j d q
    exact ⟨v, up hj e, r⟩
  · obtain ⟨hj, q⟩ := gs z
    obtain ⟨v, e, r⟩ := h.bo j r d q
    exact ⟨v, up hj e, r⟩
  · obtain ⟨hj, q⟩ := gs z
    obtain ⟨v, e, r⟩ := h.ow j d q
    exact ⟨v, up hj e, r⟩
def unO (i : Nat) : Out → Option Out
  | .nx δ => some (.nx (δ.set i none))
  | .bk δ => some (.bk (δ.set i none))
  | .ct δ => some (.ct (δ.set i none))
  | .rt d => some (.rt d)
  | .rb d δ => some (.rb d (δ.set i none))
  | .ex _ _ => none
def asXO (i : Nat) (x : Str) (g : SS → Option Out) : SS → Option Out := fun δ => (g (δ.set i (some (.sh (.exc x))))).bind (unO i)
theorem PH.imp {X : Cx} {hs : List ExceptHandler} {cls : Value} {t t' : TS} (h : PH X hs cls t) (w : ∀ D σ H, t' D σ H → t D σ H) : PH X hs cls t' := fun pins s σ H D ea T I fe th q => h pins s σ H D ea T I fe th (w D σ H q)
theorem as_tS {i : Nat} {x : Str} {Ca : Addr} {fr : Bool} {RX : XR} {g : SS → Option Out} (hx : PySem.W.nsIn K mainGlobals x = some (some (.ref Ca))) (hb : xclsB K Ca = true) : ∀ D σ H, tS K H0 B0 fr RX (asXO i x g) D σ H → tAs i Ca (tS K H0 B0 fr RX g) D σ H := by
  rintro D σ H ⟨δ, R, o, rs, q, k⟩ a ha
  unfold asXO at q
  cases e1 : g (δ.set i (some (.sh (.exc x)))) with
  | none => rw [e1] at q; cases q
  | some o1 =>
    rw [e1, Option.bind_some] at q
    have sm : Same H (upd H a (.ext (isX a Ca))) := same_upd ha
    have nb : ¬ (B0 a ∨ ∃ r, a ∈ R r) := fun z => by
      obtain ⟨o', q'⟩ := rs.inAll a z
      rw [ha] at q'; cases q'
    have rs1 := (rs.mono sm).setSh (i := i) (d := .exc x) (v := .ref a) (by unfold Rep; exact ⟨a, Ca, rfl, nb, upd_same, hx, hb⟩)
    refine ⟨_, R, o1, rs1, e1, ?_⟩
    have k := k.back (Stp.same sm)
    cases o1 with
    | nx δ' => cases q; exact fun σ' H' R' rs' s' => k _ H' R' rs'.unset s'
    | bk δ' => cases q; exact fun σ' H' R' rs' s' => k _ H' R' rs'.unset s'
    | ct δ' => cases q; exact fun σ' H' R' rs' s' => k _ H' R' rs'.unset s'
    | rt d => cases q; exact k
    | rb d δ' => cases q; exact fun v σ' H' R' A2 rs' s' => k v _ H' R' A2 rs'.unset s'
    | ex c δ' => cases q
end
/-! isinstance(e, C) -/
def isXF (L N : List Str) : D → Option D
  | .exc x => if N.contains x = true then some (.bl (L.contains x)) else none
  | _ => none
section
variable {X : Cx} {e : Expr} {f : DE} {y : Str} {p p2 pos : Pos} {L N : List Str}
theorem pe_gl {x : Str} {C : Addr} (hg : Gl X x) (hm : X.mg x = some (.ref C)) (hd : (x == ("__debug__" : Str)) = false := by decide) : PE X (.Name x pos) (tC (.ref C)) := fun _ _ _ H _ I h => ld_glob I hg hm ⟨.ref C, H, I, rfl, h⟩ hd
theorem call_isX {w : V} {c : Value} (hw : RelV w c) (hu : ∀ u, RelV w u → u = c) : CallR X (.builtin "isinstance") (fun xs H Q => ∃ B x v b, xs = [v, w] ∧ Rep X.K H B (.exc x) v ∧ (∀ C, PySem.W.nsIn X.K mainGlobals x = some (some (.ref C)) → PySem.W.kitOne X.K (.ref C) c = some b) ∧ Q (.bl b) H) := by
  intro pins s σ H xs us Q I r h
  obtain ⟨B, x, v, b, rfl, rv, hk, q⟩ := h
  obtain ⟨u, w', rfl, r1, r2⟩ := vals2 r
  have e := hu w' r2
  subst e
  unfold Rep at rv
  obtain ⟨a, C, rfl, _, hq, hn, hx⟩ := rv
  cases r1
  obtain ⟨o, ie⟩ := exc_at I hq
  exact PySem.W.kia_one (kitx_exc hx) I.kIn ie (hk C hn) (fun z => nomatch z) fun tk => ⟨.bl b, H, I.tok tk, rfl, q⟩
theorem rel_ref {C : Addr} : ∀ u, RelV (.ref C) u → u = .ref C := fun _ r => r
theorem pd_isX {w : V} {c : Value} (hw : RelV w c) (hu : ∀ u, RelV w u → u = c) (hc : PE X (.Name y p2) (tC w)) (hk : ∀ x, x ∈ N → ∀ C, PySem.W.nsIn X.K mainGlobals x = some (some (.ref C)) → PySem.W.kitOne X.K (.ref C) c = some (L.contains x)) (hg : Gl X "isinstance") (hm : X.mg "isinstance" = none) (h : PD X e f)
    (he : starEach [e, .Name y p2] X.env = [(false, eval e X.env), (false, eval (.Name y p2) X.env)] := by rfl) (he2 : starEach [.Name y p2] X.env = [(false, eval (.Name y p2) X.env)] := by rfl) : PD X (.Call (.Name "isinstance" p) [e, .Name y p2] [] pos) (d1 (isXF L N) f) :=
  (pe_callB (call_isX hw hu) hg hm boot_isinstance (pa_cons h (pa_cons hc pa_nil he2) (by rw [he, he2])) (by decide) (by decide) (by rw [he, he2]) (by rw [he2]; rfl)).imp fun σ H Q ⟨B, δ, d, hB, S, q, k⟩ => by
    unfold d1 at q
    cases e1 : f δ with
    | none => rw [e1] at q; cases q
    | some d' =>
      rw [e1, Option.bind_some] at q
      unfold isXF at q
      split at q
      · rename_i x
        split at q
        · rename_i hn
          cases q
          exact ⟨B, δ, _, hB, S, e1, fun v H1 s1 r1 => ⟨B, x, v, _, rfl, r1, hk x (List.contains_iff_mem.mp hn), k _ H1 s1 rfl⟩⟩
        · cases q
      · cases q
theorem pd_isXr {C : Addr} (hy : Gl X y) (hmy : X.mg y = some (.ref C)) (hk : ∀ x, x ∈ N → ∀ B, PySem.W.nsIn X.K mainGlobals x = some (some (.ref B)) → PySem.W.kitOne X.K (.ref B) (.ref C) = some (L.contains x)) (hg : Gl X "isinstance") (hm : X.mg "isinstance" = none) (h : PD X e f)
    (he : starEach [e, .Name y p2] X.env = [(false, eval e X.env), (false, eval (.Name y p2) X.env)] := by rfl) (he2 : starEach [.Name y p2] X.env = [(false, eval (.Name y p2) X.env)] := by rfl) (hd : (y == ("__debug__" : Str)) = false := by decide) : PD X (.Call (.Name "isinstance" p) [e, .Name y p2] [] pos) (d1 (isXF L N) f) :=
  pd_isX (w := .ref C) (c := .ref C) rfl rel_ref (pe_gl hy hmy hd) hk hg hm h he he2
end
theorem k_one {P : Str → Prop} {c : Str} {r : List Str} (h : P c) (hr : ∀ x, x ∈ r → P x) : ∀ x, x ∈ c :: r → P x := fun x hx => by
  rcases List.mem_cons.mp hx with z | z
  · rw [z]; exact h
  · exact hr x z
theorem k_nil {P : Str → Prop} : ∀ x, x ∈ ([] : List Str) → P x := fun _ h => nomatch h
section
variable {X : Cx} {H0 : Hp} {B0 : Addr → Prop} {fr : Bool} {RX : XR} {x n xn : Str} {C Ca : Addr} {np hpos : Pos} {b₀ : Stmt} {suite : List Stmt} {rest : List ExceptHandler} {g : SS → Option Out} {i : Nat}
theorem ph_asS (hn : PySem.W.nsIn X.K mainGlobals xn = some (some (.ref Ca))) (hxb : xclsB X.K Ca = true) (hg : Gl X x) (hm : X.mg x = some (.ref C)) (hx : PySem.W.exmOne X.K (.ref Ca) (.ref C) = some true) (hN : X.N.Nodup) (hi : X.N[i]? = some n) (hk : X.env.scope.names.lookup n = some .local) (hb : ∀ e, PSs (X.suite e) (b₀ :: suite) (tS X.K H0 B0 fr RX g)) (hdb : (x == ("__debug__" : Str)) = false := by decide) :
    PH X (.ExceptHandler (some (.Name x np)) (some n) (b₀ :: suite) hpos :: rest) (.ref Ca) (tS X.K H0 B0 fr RX (asXO i xn g)) := PH.imp (ph_as hg hm hx hN hi hk hb hdb) (as_tS hn hxb)
end
end L2

/-! ### E35: a list of new things; return [x, y] -/
namespace L2
open PySem PySem.Spec PyProof.Rows
theorem Trees.len {K : PySem.W.Frag} {H : Hp} : ∀ {ds : List D} {xs : List V} {A : List Addr}, Trees K H ds xs A → ds.length = xs.length
  | [], _, _, h => by unfold Trees at h; rw [h.1]; rfl
  | d :: ds, _, _, h => by
    unfold Trees at h
    obtain ⟨x, r, C, C', rfl, _, h2, _⟩ := h
    simp [Trees.len h2]
section
variable {X : Cx} {e : Expr} {es : List Expr} {pos : Pos}
variable {H0 : Hp} {B0 : Addr → Prop} {RX : XR} {a b : Expr} {pos' : Pos}
def ownV (δ : SS) (i : Nat) : Option D := match δ[i]? with
  | some (some (.ow d)) => some d
  | some (some (.sh d)) => if d.imm = true then some d else none
  | _ => none
def ret2 (i j : Nat) : SS → Option Out := fun δ => match ownV δ i, ownV δ j with
  | some d, some e => some (.rt (.lst [d, e]))
  | _, _ => none
end
end L2

/-! ### E36: f(new thing, ..), where f takes its first argument over -/
namespace L2
open PySem PySem.Spec PyProof.Rows
def dCallM (F : List D → Option D) (f0 : DE) (fl : List DE) : DE := fun δ => (f0 δ).bind fun d0 => (dArgs fl δ).bind fun args => if imms args = true then F (d0 :: args) else none
section
variable {X : Cx} {k : Nat} {x : Str} {p pos : Pos} {e : Expr} {es : List Expr}
end
end L2

/-! ### E37: a list times an int; f(..)[i], where f may raise -/
namespace L2
open PySem PySem.Spec PyProof.Rows
def repLs : D → D → Option (List D)
  | .lst ds, .int k => if (0 ≤ k ∧ k ≤ 1000000) ∧ ds.length * k.toNat ≤ sizeLine then some (List.replicate k.toNat ds).flatten else none
  | _, _ => none
def dRep (f g : DE) : DS → Option (List D) := fun δ => (f δ).bind fun x => (g δ).bind fun y => repLs x y
theorem Reps.rep {K : PySem.W.Frag} {H : Hp} {B : Addr → Prop} {ds : List D} {xs : List V} (h : Reps K H B ds xs) : ∀ n : Nat, Reps K H B (List.replicate n ds).flatten (List.replicate n xs).flatten
  | 0 => (show Reps K H B [] [] by unfold Reps; rfl)
  | n + 1 => by
    rw [List.replicate_succ, List.replicate_succ, List.flatten_cons, List.flatten_cons]
    exact h.append (Reps.rep h n)
def dIxX (F : DS → Option XO) (g : DE) : DS → Option XO := fun δ => match F δ with
  | some (.val d) => (g δ).bind fun y => (ixD d y).bind fun z => if z.imm = true then some (.val z) else none
  | some (.exc c) => some (.exc c)
  | none => none
section
variable {X : Cx} {a b : Expr} {pos : Pos} {f g : DE} {RX : XR}
end
end L2

/-! ### E38: sorted of a dict -/
namespace PySem
open Sem (wp)
section
variable {K : Type} [DecidableEq K] {prog : Program} {w : World} {knd : KeyKind prog w K} {A : Around} {E : Value → Shared → Prop} {s : Shared}
end
end PySem

/-! ### E39: sorted of a dict, by trees -/
namespace L2
open PySem PySem.Spec PyProof.Rows
section
variable {prog : Program} {w : World} {A : Around} {E : Value → Shared → Prop} {s : Shared}
end
section
variable {X : Cx}
variable {e : Expr} {f : DE} {p pos : Pos}
end
end L2

/-! ### E40: {k: v} of ints; range(a, b, -1); f(..)[i] of new lists -/
namespace L2
open PySem PySem.Spec PyProof.Rows
def mkD1 : D → D → Option D
  | .int a, .int b => some (.dct [.inl a] [.int b])
  | _, _ => none
def dDisp1 (fk fv : DE) : DE := d2 mkD1 fk fv
section
variable {X : Cx} {ke ve : Expr} {pos : Pos} {f g : DE}
end
section
variable {X : Cx} {tg : Expr}
def rngN : Option D → Option D → Option D → Option (List D)
  | some (.int i), some (.int j), some (.int c) => if c = -1 ∧ -(2 ^ 61) ≤ i ∧ i < 2 ^ 61 ∧ -(2 ^ 61) ≤ j ∧ j < 2 ^ 61 then some (rngC i (-1) (i - j).toNat) else none
  | _, _, _ => none
def dRngN (f g h : DE) : DS → Option (List D) := fun δ => rngN (f δ) (g δ) (h δ)
end
theorem Trees.at {K : PySem.W.Frag} {H : Hp} : ∀ {ds : List D} {xs : List V} {A : List Addr} {k : Nat} {d : D}, Trees K H ds xs A → A.Nodup → ds[k]? = some d → ∃ v C, xs[k]? = some v ∧ Tree K H d v C ∧ C.Nodup ∧ ∀ a ∈ C, a ∈ A
  | [], _, _, _, _, _, _, e => by cases e
  | d :: ds, xs, A, k, d', h, nd, e => by
    unfold Trees at h
    obtain ⟨x, r, C, C', rfl, h1, h2, rfl⟩ := h
    have n2 := List.nodup_append.mp nd
    cases k with
    | zero => cases e; exact ⟨x, C, rfl, h1, n2.1, fun a ha => List.mem_append.mpr (.inl ha)⟩
    | succ k =>
      obtain ⟨v, D', e1, t1, nd1, sb⟩ := Trees.at (k := k) h2 n2.2.1 (by simpa using e)
      exact ⟨v, D', by simpa using e1, t1, nd1, fun a ha => List.mem_append.mpr (.inr (sb a ha))⟩
def ixL : D → D → Option D
  | .lst ds, .int i => atI ds i
  | _, _ => none
section
variable {X : Cx} {a b : Expr} {pos : Pos} {f g : DE}
end
end L2

/-! ### E41: for x, y in enumerate(xs) -/
namespace L2
open PySem PySem.Spec PyProof.Rows
def twoD : D → Option (D × D)
  | .tup [a, b] => some (a, b)
  | _ => none
def forD2 (i j : Nat) (b : SS → Option Out) : List D → SS → Option Out
  | [], δ => some (.nx δ)
  | d :: r, δ => (twoD d).bind fun z => (b ((δ.set i (some (.sh z.1))).set j (some (.sh z.2)))).bind fun o => match o with
    | .nx δ' => forD2 i j b r δ'
    | .ct δ' => forD2 i j b r δ'
    | .bk δ' => some (.nx δ')
    | .rt d => some (.rt d)
    | .rb d δ' => some (.rb d δ')
    | .ex c δ' => some (.ex c δ')
def forO2 (i j : Nat) (f : DS → Option (List D)) (g : SS → Option Out) : SS → Option Out := fun δ => (f (shV δ)).bind fun ds => forD2 i j g ds δ
section
variable {X : Cx} {H0 : Hp} {B0 : Addr → Prop} {fr : Bool} {RX : XR} {pos : Pos}
end
end L2

/-! ### E42: min of a list of ints -/
namespace L2
open PySem PySem.Spec PyProof.Rows
section
variable {X : Cx}
variable {e : Expr} {f : DE} {p pos : Pos}
end
end L2

/-! ### E43: xs[a::k] -/
namespace L2
open PySem PySem.Spec PyProof.Rows
def stepIx (n : Nat) (lo st : Int) : List Nat := sliceRange (min lo n) n st
def stepLs : D → D → D → Option (List D)
  | .lst ds, .int lo, .int st => if 0 ≤ lo ∧ 0 < st then some ((stepIx ds.length lo st).filterMap (ds[·]?)) else none
  | .scr ns, .int lo, .int st => if 0 ≤ lo ∧ 0 < st then some ((stepIx ns.length lo st).filterMap ((ns.map D.int)[·]?)) else none
  | _, _, _ => none
def dStep (f g h : DE) : DS → Option (List D) := fun δ => (f δ).bind fun x => (g δ).bind fun y => (h δ).bind fun z => stepLs x y z
section
variable {X : Cx} {e lo st : Expr} {te : TE} {tl tk : TO} {pos p2 : Pos}
variable {f g h : DE}
end
end L2

/-! ### E44: products of greater numbers -/
namespace L2
open PySem PySem.Spec PyProof.Rows
def bigL : Nat := 2 ^ 250
def CMulB (i j : Int) : Prop := i.natAbs < bigL ∧ j.natAbs < bigL
instance {i j : Int} : Decidable (CMulB i j) := by unfold CMulB; infer_instance
def mulB : D → D → Option D := iop fun i j => if CMulB i j then some (.int (i * j)) else none
theorem CMulB.ok {i j : Int} (h : CMulB i j) : IntMulOk i j := by
  have h1 : Builtin.Int.intBits i ≤ 250 := intBits_le h.1
  have h2 : Builtin.Int.intBits j ≤ 250 := intBits_le h.2
  have h3 : Builtin.Int.intTooBig ((Builtin.Int.intBits i : Int) + (Builtin.Int.intBits j : Int)) = false := by
    unfold Builtin.Int.intTooBig
    apply decide_eq_false
    have hb : (2000 : Int) ≤ bitsLine := by decide
    omega
  unfold IntMulOk
  rw [h3]
  simp
section
variable {X : Cx} {a b : Expr} {pos : Pos} {f g : DE}
theorem op_mulB : OpR X (binaryOp .Mult) (rI CMulB fun i j => .int (i * j)) := opI fun _ _ _ _ _ _ _ hc q => mul_int q hc.ok
theorem pd_mulB (ha : PD X a f) (hb : PD X b g) : PD X (.BinOp a .Mult b pos) (d2 mulB f g) := pd_op op_mulB o2_int ha hb
end
end L2

/-! ### E45: for x in range(..), the bounds read from anything; return [x, y, z] -/
namespace L2
open PySem PySem.Spec PyProof.Rows
section
variable {X : Cx} {tg iter a b : Expr} {p pos pos' : Pos}
structure ItF (J : It) (lo : Int) (n : Nat) : Prop where
  go : ∀ i H', i < n → J.go i H'
  stop : ∀ i H', n ≤ i → J.stop i H'
  yld : ∀ i H' x H2, J.yld i H' x H2 → Same H' H2 ∧ x = .int (lo + (i : Int))
def dIv1 (f : DE) : DS → Option (Int × Nat) := fun δ => match f δ with
  | some (.int j) => if -(2 ^ 62) ≤ j ∧ j < 2 ^ 62 then some (0, j.toNat) else none
  | _ => none
def dIv2 (f g : DE) : DS → Option (Int × Nat) := fun δ => match f δ, g δ with
  | some (.int i), some (.int j) => if -(2 ^ 62) ≤ i ∧ i < 2 ^ 62 ∧ -(2 ^ 62) ≤ j ∧ j < 2 ^ 62 then some (i, (j - i).toNat) else none
  | _, _ => none
def forI (i : Nat) (f : DS → Option (Int × Nat)) (b : SS → Option Out) : SS → Option Out := fun δ => (f (allV δ)).bind fun z => forD i b (rngL z.1 z.2) δ
variable {H0 : Hp} {B0 : Addr → Prop} {fr : Bool} {RX : XR}
/-! return [x, y, z] -/
def ret3 (i j l : Nat) : SS → Option Out := fun δ => match ownV δ i, ownV δ j, ownV δ l with
  | some d, some e, some f => some (.rt (.lst [d, e, f]))
  | _, _, _ => none
variable {c : Expr}
end
end L2

/-! ### E46: new lists of new things put together -/
namespace L2
open PySem PySem.Spec PyProof.Rows
section
variable {X : Cx} {a b : Expr} {pos : Pos} {f g : DE}
end
end L2

/-! ### E47: t[lo:hi] of a tuple, also the whole of it; max of a list of ints -/
namespace HT
open PySem PySem.Spec PyProof.Rows
section
variable {prog : Program} {w : World} {A : Around} {E : Value → Shared → Prop} {s : Shared}
end
end HT
namespace L2
open PySem PySem.Spec PyProof.Rows
section
variable {X : Cx} {e a b : Expr} {lo hi : Option Expr} {p p2 pos : Pos}
def dCutT (f : DE) (fl fh : DS → Option (Option Int)) : DE := fun δ => match f δ with
  | some (.tup ds) => (fl δ).bind fun lo => (fh δ).map fun hi => .tup (cutL ds lo hi)
  | _ => none
/-! max of a list -/
variable {f : DE}
end
end L2

/-! ### E48: the tables of sets: their places rise as long as they are plain -/
namespace PySem
namespace SetTable
def Up (xs : Array Nat) : Prop := xs.toList.Pairwise (· < ·)
end SetTable
/-- what is known of a set's table -/
def TI (t : SetTable) : Prop := t.led = true ∧ (t.plain = true → SetTable.Up t.place)
end PySem

/-! ### E49: set(xs) of ints, with what is known of its table -/
namespace PySem
section
variable {prog : Program} {w : World} {K : Type} [DecidableEq K] (knd : KeyKind prog w K)
variable {knd} {A : Around} {E : Value → Shared → Prop} {s : Shared}
end
section
variable {prog : Program} {w : World} {A : Around} {R : Result → Shared → Prop} {I : Addr} {fp wr : List Addr} {G : Array GenState → Array GenState → Prop} {n : Nat} {P : Nat → Value → Prop} {St : Nat → Shared → Prop}
open PyProof.Rows in
end
end PySem

/-! ### E50: set(xs), the call -/
namespace PySem
section
variable {prog : Program} {w : World} {A : Around} {E : Value → Shared → Prop} {s : Shared}
open PyProof.Rows in
set_option maxHeartbeats 3200000 in
open PyProof.Rows in
end
end PySem

/-! ### E51: going through a set -/
namespace PySem
section
variable {M : Model} {A : Around} {E : Value → Shared → Prop} {s : Shared}
end
section
variable {prog : Program} {w : World} {A : Around} {E : Value → Shared → Prop} {s : Shared}
end
end PySem

/-! ### E52: a set's iterator -/
namespace PySem
def Heap.SIt (g : Heap) (I a : Addr) (first : Value) (i n ep : Nat) : Prop := ∃ ob, g.get? I = some ob ∧ ob.cls = .type "set_iterator" ∧ ob.data = .fields #[first, .int i 0, .ref a, .int n 0, .int ep 0]
section
variable {prog : Program} {w : World} {A : Around} {E : Value → Shared → Prop} {s : Shared}
end
end PySem

/-! ### E53: collect of a set of ints -/
namespace PySem
section
variable {prog : Program} {w : World} {A : Around} {E : Value → Shared → Prop} {s : Shared}
end
end PySem

/-! ### E54: collect of a set -/
namespace PySem
open Sem (wp)
section
variable {K : Type} [DecidableEq K] {prog : Program} {w : World} {knd : KeyKind prog w K} {A : Around} {E : Value → Shared → Prop} {s : Shared}
end
end PySem

/-! ### E55: sorted(set(xs)), xs a list of ints -/
namespace L2
open PySem PySem.Spec PyProof.Rows
def ddI (ns : List Int) : List Int := ns.foldl (fun acc n => if acc.any (· == n) then acc else acc ++ [n]) []
section
variable {prog : Program} {w : World} {A : Around} {E : Value → Shared → Prop} {s : Shared}
end
section
variable {X : Cx} {e : Expr} {te : TE} {p p' pos pos' : Pos}
def sortSF : D → Option (List D)
  | .lst ds => (ints' ds).bind fun ns => if ns.length ≤ 1000 ∧ (ddI ns).length < 64 then some ((srtI (ddI ns)).map .int) else none
  | _ => none
def dSortS (f : DE) : DS → Option (List D) := fun δ => (f δ).bind sortSF
variable {f : DE}
end
end L2

/-! ### E56: lists put together, the script among them -/
namespace L2
open PySem PySem.Spec PyProof.Rows
section
variable {X : Cx} {a b : Expr} {pos : Pos} {f g : DE}
def rCatL (K : PySem.W.Frag) : R2 := fun x y H Q => ∃ l b xs zs, x = .ref l ∧ y = .ref b ∧ SqL K H l xs ∧ SqL K H b zs ∧ xs.length + zs.length ≤ sizeLine ∧ ∀ p, H p = none → Q (.ref p) (upd H p (.lst (xs ++ zs)))
theorem op_catL : OpR X (binaryOp .Add) (rCatL X.K) := by
  intro pins s σ H x y v u Q I rx ry h
  obtain ⟨l, b, xs, zs, rfl, rfl, hH, hB, hz, q⟩ := h
  cases rx
  cases ry
  obtain ⟨its, r, ⟨o1, n1, e1, c1, d1, g1⟩, z1⟩ := I.list hH
  obtain ⟨its2, r2, ⟨o2, n2, e2, c2, d2, g2⟩, z2⟩ := I.list hB
  have hl := r.length
  have hl2 := r2.length
  obtain ⟨cls, dd, data, sl⟩ := o1
  obtain ⟨cls2, dd2, data2, sl2⟩ := o2
  simp only at c1 d1 g1 c2 d2 g2
  subst c1 d1 g1 c2 d2 g2
  refine concat_meets ⟨_, e1, rfl⟩ ⟨_, e2, rfl⟩ noFill_list_add seq_list_add PySem.F.slot_list_add PySem.F.entry_list_add (PySem.F.args_list_add_2 _ _) (list_addW l b its.toArray its2.toArray n1 n2 none none sl sl2 (by rw [List.size_toArray, List.size_toArray]; omega)) ⟨e1, e2, ?_⟩
  have ea : its.toArray ++ its2.toArray = (its ++ its2).toArray := by simp
  rw [ea]
  exact ⟨.ref _, _, I.lnew (t' := s.toks) (r.append r2) (by rw [List.length_append]; omega), rfl, q _ I.fresh⟩
def seqL : D → Option (List D)
  | .lst ds => some ds
  | .scr ns => some (ns.map .int)
  | _ => none
def catSs : D → D → Option (List D) := fun x y => (seqL x).bind fun ds => (seqL y).bind fun es => if ds.length + es.length ≤ sizeLine then some (ds ++ es) else none
def dCatS (f g : DE) : DS → Option (List D) := fun δ => (f δ).bind fun x => (g δ).bind fun y => catSs x y
theorem seqL_rep {K : PySem.W.Frag} {H : Hp} {B : Addr → Prop} {d : D} {ds : List D} {v : V} (h : Rep K H B d v) (e : seqL d = some ds) : ∃ p vs, v = .ref p ∧ (∀ H', Same H H' → SqL K H' p vs) ∧ Reps K H B ds vs := by
  unfold seqL at e
  split at e
  · cases e
    unfold Rep at h
    obtain ⟨p, vs, rfl, _, hq, rs⟩ := h
    exact ⟨p, vs, rfl, fun H' s => SqL.of (s _ _ hq), rs⟩
  · cases e
    unfold Rep at h
    obtain ⟨p, rfl, hq⟩ := h
    exact ⟨p, _, rfl, fun H' s => (s.sf hq).sq, reps_ints _⟩
  · cases e
theorem pf_catS (ha : PD X a f) (hb : PD X b g) : PF X (.BinOp a .Add b pos) (dCatS f g) := (pe_op op_catL ha hb).imp fun σ H Q ⟨B, δ, ds, hB, S, q, k⟩ => by
  unfold dCatS at q
  cases e1 : f δ with
  | none => rw [e1] at q; cases q
  | some x =>
  rw [e1, Option.bind_some] at q
  cases e2 : g δ with
  | none => rw [e2] at q; cases q
  | some y =>
  rw [e2, Option.bind_some] at q
  unfold catSs at q
  cases e3 : seqL x with
  | none => rw [e3] at q; cases q
  | some xs =>
  rw [e3, Option.bind_some] at q
  cases e4 : seqL y with
  | none => rw [e4] at q; cases q
  | some ys =>
  rw [e4, Option.bind_some] at q
  split at q
  case isFalse => cases q
  case isTrue hl =>
  cases q
  refine ⟨B, δ, _, hB, S, e1, fun v H1 s1 r1 => ⟨B, δ, _, hB.mono s1, S.mono s1, e2, fun v2 H2 s2 r2 => ?_⟩⟩
  obtain ⟨p1, vs, rfl, h1, rs1⟩ := seqL_rep r1 e3
  obtain ⟨p2, ws, rfl, h2, rs2⟩ := seqL_rep r2 e4
  refine ⟨p1, p2, vs, ws, rfl, rfl, h1 _ s2, h2 _ (.refl _), by rw [← rs1.length, ← rs2.length]; exact hl, fun p hp => ?_⟩
  exact k p _ _ ((s1.trans s2).trans (same_upd hp)) ((s1.trans s2).free hp) upd_same (((rs1.mono s2).append rs2).mono (same_upd hp))
end
end L2

/-! ### E57: isinstance(x, str) -/
namespace L2
open PySem PySem.Spec PyProof.Rows
section
variable {X : Cx} {e : Expr} {p p2 pos : Pos}
end
end L2

/-! ### E58: len(set(xs)), xs a list of ints -/
namespace L2
open PySem PySem.Spec PyProof.Rows
section
variable {X : Cx} {e : Expr} {te : TE} {p p' pos pos' : Pos}
variable {f : DE}
end
end L2

/-! ### E59: tuples put together -/
namespace L2
open PySem PySem.Spec PyProof.Rows
section
variable {X : Cx} {a b : Expr} {pos : Pos} {f g : DE}
end
end L2

/-! ### E60: `if not f(..):` where f may raise -/
namespace L2
open PySem PySem.Spec PyProof.Rows
section
variable {X : Cx} {c : Expr} {a b : List Stmt} {p2 pos : Pos} {H0 : Hp} {B0 : Addr → Prop} {fr : Bool} {RX : XR} {F : DS → Option XO} {g h : SS → Option Out}
def ifNX (F : DS → Option XO) (g h : SS → Option Out) : SS → Option Out := fun δ => (F (allV δ)).bind fun o => match o with
  | .val (.bl k) => if k = true then h δ else g δ
  | .exc c => some (.ex c δ)
  | _ => none
end
end L2

/-! ### E61: C(e) of a class of the program under ValueError, as a new thing -/
namespace L2
open PySem PySem.Spec PyProof.Rows
section
variable {X : Cx} {x : Str} {C : Addr} {np cpos : Pos} {e₀ : Expr} {te : TE} {f : DE}
end
end L2

/-! ### E62: for x in f(..) where f may raise -/
namespace L2
open PySem PySem.Spec PyProof.Rows
section
variable {X : Cx} {pos : Pos} {H0 : Hp} {B0 : Addr → Prop} {fr : Bool} {RX : XR} {F : DS → Option XO}
def forXO (i : Nat) (F : DS → Option XO) (g : SS → Option Out) : SS → Option Out := fun δ => (F (allV δ)).bind fun o => match o with
  | .val (.lst ds) => forD i g ds δ
  | .exc c => some (.ex c δ)
  | _ => none
end
end L2

/-! ### E63: a def that takes over its second argument; return [x] -/
namespace L2
open PySem PySem.Spec PyProof.Rows
section
variable {P : Program} {w : World} {K : PySem.W.Frag} {mg : Str → Option Value} {base : Heap}
end
def dCallM2 (F : List D → Option D) (f0 f1 : DE) (fl : List DE) : DE := fun δ => (f0 δ).bind fun a => (f1 δ).bind fun b => (dArgs fl δ).bind fun cs => F (a :: b :: cs)
section
variable {X : Cx} {k : Nat} {x : Str} {p pos : Pos} {e e' : Expr} {es : List Expr}
variable {H0 : Hp} {B0 : Addr → Prop} {RX : XR} {a : Expr} {pos' : Pos}
def ret1 (i : Nat) : SS → Option Out := fun δ => (ownV δ i).map fun d => .rt (.lst [d])
end
end L2

/-! ### E64: x.append(y) where y owns its list and is not read again ahead of its next assignment; written lists of lists of ints -/
namespace L2
open PySem PySem.Spec PyProof.Rows
section
variable {K : PySem.W.Frag} {H0 H : Hp} {B0 : Addr → Prop} {σ : St} {δ : SS} {R : Nat → List Addr}
def givS (i j : Nat) (d : D) (δ : SS) : SS := ((dropBs i (dropBs j δ)).set j none).set i (some (.ow d))
end
section
variable {X : Cx} {H0 : Hp} {B0 : Addr → Prop} {fr : Bool} {RX : XR} {e : Expr} {pos ap cp : Pos} {x : Str} {px : Pos}
def appO (i j : Nat) : SS → Option Out := fun δ => match δ[j]?, δ[i]? with
  | some (some (.ow d)), some (some (.ow (.lst ds))) => (appF ds [d]).map fun ds' => .nx (givS i j (.lst ds') δ)
  | _, _ => none
end
/-! written lists of lists of ints -/
section
variable {X : Cx} {pos : Pos}
variable {H0 : Hp} {B0 : Addr → Prop} {fr : Bool} {RX : XR}
/-- a statement, a body: as PS and PSs, but never opened while terms are made (a written list is opened far too far) -/
@[irreducible] def PSb (X : Cx) (st : Stmt) (t : TS) : Prop := PS X st t
@[irreducible] def PSsb (X : Cx) (st : List Stmt) (t : TS) : Prop := PSs X st t
end
section
variable {P : Program} {w : World} {K : PySem.W.Frag} {mg : Str → Option Value} {base : Heap}
theorem defNb {x qual : Str} {st : Stmt} {f : Addr} {fd : FuncData} {N ps : List Str} {k np nl : Nat} {g : SS → Option Out} (F : Fun K x qual st f fd) (hm : mg x = some (.ref f)) (hb : Binds K fd ps []) (S : FnScope N ps (defScope st)) (hnp : ps.length = np) (hN : N.length = np + nl)
    (hbody : ∀ (cdv : Value) (A : Around) (outer : List Env) (s : Shared) (H : Hp) (E : XK), Room k (A.deeper (envOfC qual (defScope st) s.heap.objs.size f cdv)) →
      PSsb (cxOf CX0 P w K mg base N qual (defScope st) f cdv A outer s H E).nox (defBody st) (tS K H noB true noX g)) : DefOk P w K mg base (k + 1) x (spN K (runD np nl g)) :=
  defN F hm hb S hnp hN fun cdv A outer s H E hr => by
    have z := hbody cdv A outer s H E hr
    unfold PSsb at z
    exact z
end
end L2

/-! ### E65: x[k].clear() -/
namespace L2
open PySem PySem.Spec PyProof.Rows
section
variable {X : Cx} {H0 : Hp} {B0 : Addr → Prop} {fr : Bool} {RX : XR} {x : Str} {px p2 ap cp pos : Pos} {ke : Expr} {fk : DE}
end
end L2

/-! ### E66: xs.extend(ys) of a shared ys whose items cannot change; written lists of tuples of ints -/
namespace L2
open PySem PySem.Spec PyProof.Rows
section
variable {X : Cx} {H0 : Hp} {B0 : Addr → Prop} {fr : Bool} {RX : XR} {e : Expr} {f : DE} {pos ap cp : Pos} {x : Str} {px : Pos}
def ext0D (i : Nat) (f : DE) : SS → Option Out := fun δ => (f (allV δ)).bind fun d => (match d, δ[i]? with
  | .lst es, some (some (.ow (.lst ds))) => if imms es = true ∧ ds.length + es.length ≤ sizeLine then some (.nx ((dropBs i δ).set i (some (.ow (.lst (ds ++ es)))))) else none
  | _, _ => none)
end
section
variable {X : Cx} {pos : Pos}
variable {H0 : Hp} {B0 : Addr → Prop} {fr : Bool} {RX : XR}
end
end L2

/-! ### E67: isinstance(e, (A, B)) of an exception -/
namespace L2
open PySem PySem.Spec PyProof.Rows
section
variable {X : Cx} {e : Expr} {f : DE} {y z : Str} {p p2 p3 p4 pos : Pos} {x1 : Nat} {L M1 M2 N : List Str}
end
end L2

/-! ### E68: xs.count(x); xs[k] = a new thing -/
namespace L2
open PySem PySem.Spec PyProof.Rows
section
variable {X : Cx} {o e : Expr} {apos cpos : Pos}
end
section
variable {X : Cx} {H0 : Hp} {B0 : Addr → Prop} {fr : Bool} {RX : XR} {e ke : Expr} {pos : Pos} {x : Str} {px p2 : Pos}
def st0N (i : Nat) (fk fv : DE) : SS → Option Out := fun δ => (fv (allV δ)).bind fun d => (fk (allV δ)).bind fun dk => (match dk, δ[i]? with
  | .int k, some (some (.ow (.lst ds))) => (ixN ds.length k).map fun j => .nx ((dropBs i δ).set i (some (.ow (.lst (ds.set j d)))))
  | _, _ => none)
end
end L2

/-! ### E69: loops that only look, over things that can change -/
namespace L2
open PySem PySem.Spec PyProof.Rows
theorem RepS.set {K : PySem.W.Frag} {H : Hp} {B : Addr → Prop} {σ : St} {δ : DS} {i : Nat} {d : D} {v : V} (h : RepS K H B (σ.set i (some v)) δ) (r : Rep K H B d v) (hi : i < σ.length) : RepS K H B (σ.set i (some v)) (δ.set i (some d)) := by
  refine ⟨by rw [List.length_set]; exact h.len, fun j d' q => ?_⟩
  by_cases hij : i = j
  · subst hij
    rw [List.getElem?_set] at q
    simp only [if_true] at q
    split at q
    · cases q
      exact ⟨v, by rw [List.getElem?_set_self hi], r⟩
    · cases q
  · rw [List.getElem?_set_ne hij] at q
    exact h.get j d' q
section
variable {X : Cx} {H0 : Hp} {B0 : Addr → Prop} {fr : Bool} {RX : XR} {pos : Pos}
end
end L2

/-! ### E70: x = f(.., y): an owned list y of ints is lent frozen, so that the list of ints that comes back is new -/
namespace L2
open PySem PySem.Spec PyProof.Rows
def hdI : List D → Bool
  | .int _ :: _ => true
  | _ => false
section
variable {K : PySem.W.Frag} {H : Hp} {B : Addr → Prop} {m : Addr} {xs : List V} {o : Obj}
end
section
variable {X : Cx} {H0 : Hp} {B0 : Addr → Prop} {fr : Bool} {RX : XR} {st : Stmt}
end
end L2

/-! ### E71: x[0].append(n), x.append([]) of a shared list of lists of ints, at the end of the law: what may be of it is forgotten -/
namespace L2
open PySem PySem.Spec PyProof.Rows
mutual
def noJ : D → Bool
  | .lst ds => !hdI ds && noJs ds
  | .non => true
  | .bl _ => true
  | .int _ => true
  | .str _ => true
  | .tup _ => false
  | .scr _ => false
  | .dct _ _ => false
  | .exc _ => false
  | .obj _ _ _ _ => false
  | .cel _ _ => false
def noJs : List D → Bool
  | [] => true
  | d :: ds => noJ d && noJs ds
end
section
variable {K : PySem.W.Frag} {H : Hp} {B : Addr → Prop} {m : Addr} {xs : List V}
mutual
theorem Rep.off (hm : H m = some (.lst xs)) (hx : ∀ ds, hdI ds = false → noJs ds = true → Reps K H B ds xs → False) : ∀ (d : D) {v : V}, noJ d = true → Rep K H B d v → Rep K H (fun a => B a ∨ a = m) d v
  | .non, _, _, h => h
  | .bl _, _, _, h => h
  | .int _, _, _, h => h
  | .str _, _, _, h => h
  | .tup _, _, n, _ => by unfold noJ at n; cases n
  | .scr _, _, n, _ => by unfold noJ at n; cases n
  | .dct _ _, _, n, _ => by unfold noJ at n; cases n
  | .exc _, _, n, _ => by unfold noJ at n; cases n
  | .obj _ _ _ _, _, n, _ => by unfold noJ at n; cases n
  | .cel _ _, _, n, _ => by unfold noJ at n; cases n
  | .lst ds, _, n, h => by
    unfold noJ at n
    unfold Rep at h ⊢
    obtain ⟨a, ys, e, nb, ha, r⟩ := h
    obtain ⟨n1, n2⟩ := Bool.and_eq_true_iff.mp n
    refine ⟨a, ys, e, fun z => ?_, ha, Reps.off hm hx ds n2 r⟩
    rcases z with z | z
    · exact nb z
    · rw [z, hm] at ha
      cases ha
      exact hx ds (by simpa using n1) n2 r
theorem Reps.off (hm : H m = some (.lst xs)) (hx : ∀ ds, hdI ds = false → noJs ds = true → Reps K H B ds xs → False) : ∀ (ds : List D) {vs : List V}, noJs ds = true → Reps K H B ds vs → Reps K H (fun a => B a ∨ a = m) ds vs
  | [], _, _, h => h
  | d :: ds, _, n, h => by
    unfold noJs at n
    unfold Reps at h ⊢
    obtain ⟨x, r, e, rd, rs⟩ := h
    obtain ⟨n1, n2⟩ := Bool.and_eq_true_iff.mp n
    exact ⟨x, r, e, Rep.off hm hx d n1 rd, Reps.off hm hx ds n2 rs⟩
end
end
def keepJ : Option SD → Option SD
  | some (.sh d) => if noJ d = true then some (.sh d) else none
  | some (.ow d) => some (.ow d)
  | _ => none
theorem keepJ_sh {o : Option SD} {d : D} (h : keepJ o = some (.sh d)) : o = some (.sh d) ∧ noJ d = true := by
  unfold keepJ at h
  split at h
  · split at h
    · rename_i z; cases h; exact ⟨rfl, z⟩
    · cases h
  · cases h
  · cases h
theorem keepJ_bo {o : Option SD} {r : Nat} {d : D} (h : keepJ o = some (.bo r d)) : False := by
  unfold keepJ at h
  split at h
  · split at h <;> cases h
  · cases h
  · cases h
section
variable {K : PySem.W.Frag} {H0 H H' : Hp} {B0 : Addr → Prop} {σ : St} {δ : SS} {R : Nat → List Addr}
/-- a cell that is nobody's own is written -/
theorem RS.wr {m : Addr} {xs ys : List V} (h : RS K H0 B0 H σ δ R) (hO : ∀ a xs, H0 a ≠ some (.lst xs)) (hk : ∀ x ∈ δ, keepJ x = x) (hm : H m = some (.lst xs)) (nR : ∀ r, m ∉ R r)
    (hx : ∀ B ds, hdI ds = false → noJs ds = true → Reps K H B ds xs → False) : RS K H0 B0 (upd H m (.lst ys)) σ δ R := by
  have mu : Mut (H m) := by rw [hm]; exact trivial
  have nm : ∀ r a, a ∈ R r → a ≠ m := fun r a z w => nR r (w ▸ z)
  refine ⟨fun a u q => ?_, h.inB, h.len, h.new, fun r a z => ?_, h.disj, fun i d q => ?_, fun i r d q => ?_, fun i d q => ?_⟩
  · have ne : a ≠ m := fun w => by
      have := h.keep a u q
      rw [w, hm] at this
      cases this
      exact hO a xs q
    rw [upd_ne ne]
    exact h.keep a u q
  · rw [upd_ne (nm r a z)]
    exact h.held r a z
  · obtain ⟨v, e, r⟩ := h.sh i d q
    have n := (keepJ_sh (hk _ (List.mem_of_getElem? q))).2
    exact ⟨v, e, (Rep.keep (Keep.upd (.inr rfl) mu) d (Rep.off hm (hx _) d n r)).anti fun a z => .inl z⟩
  · exact (keepJ_bo (hk _ (List.mem_of_getElem? q))).elim
  · obtain ⟨v, e, t, nd⟩ := h.ow i d q
    refine ⟨v, e, Tree.keep (Keep.upd (K := K) (B := fun x => x = m) rfl mu).i d t fun a ha o z => ?_, nd⟩
    rw [upd_ne (nm i a ha)]
    exact z
end
section
variable {X : Cx} {H0 : Hp} {B0 : Addr → Prop} {fr : Bool} {RX : XR} {st1 st2 : Stmt} {sts : List Stmt} {f : DE} {z : Int}
end
end L2

/-! ### E72: the law's def where nothing but the script is there at the start -/
namespace L2
open PySem PySem.Spec PyProof.Rows
section
variable {P : Program} {w : World} {K : PySem.W.Frag} {mg : Str → Option Value} {base : Heap}
end
section
variable {X : Cx} {e : Expr} {pos ap cp p2 : Pos} {x : Str} {px : Pos} {f : DE} {z : Int} {ke : Expr}
end
end L2

/-! ### E73: min of a list of ints, frozen or not -/
namespace L2
open PySem PySem.Spec PyProof.Rows
section
variable {X : Cx}
variable {e : Expr} {f : DE} {p pos : Pos}
end
end L2

/-! ### E74: xs.append(ys.pop(0)) of two owned lists of ints -/
namespace L2
open PySem PySem.Spec PyProof.Rows
section
variable {X : Cx} {H0 : Hp} {B0 : Addr → Prop} {fr : Bool} {RX : XR} {e : Expr} {pos ap cp ap2 cp2 : Pos} {x y : Str} {px py : Pos}
end
end L2

/-! ### E75: zip of two sequences, its pairs taken apart at once -/
namespace L2
open PySem PySem.Spec PyProof.Rows
section
variable {prog : Program} {w : World} {A : Around} {E : Value → Shared → Prop} {s : Shared} {it t : Addr} {i : Nat} {its : Array Value} {Q : Fin → Shared → Prop} {o ol : Obj} {n : Nat} {x : Value}
end
section
variable {prog : Program} {w : World} {A : Around} {E : Value → Shared → Prop} {s : Shared} {z TI TO i1 i2 : Addr} {a b : Value}
/-- what is not one of these stays -/
def Stay (xs : List Addr) (h h' : Heap) : Prop := ∀ c o, c ∉ xs → h.get? c = some o → h'.get? c = some o
theorem Stay.but {c : Addr} {xs : List Addr} {h h1 h2 : Heap} (k : Stay xs h h1) (e : Heap.ExtBut c h1 h2) (hc : c ∈ xs) : Stay xs h h2 := fun b o hb q => e b o (fun z => hb (z ▸ hc)) (k b o hb q)
theorem Stay.one {c : Addr} {xs : List Addr} {h h1 : Heap} (e : Heap.ExtBut c h h1) (hc : c ∈ xs) : Stay xs h h1 := fun b o hb q => e b o (fun z => hb (z ▸ hc)) q
theorem Stay.wide {xs ys : List Addr} {h h1 : Heap} (k : Stay xs h h1) (e : ∀ c ∈ xs, c ∈ ys) : Stay ys h h1 := fun b o hb q => k b o (fun z => hb (e b z)) q

end
section
variable {prog : Program} {w : World} {A : Around} {E : Value → Shared → Prop} {s : Shared} {z TI TO i1 i2 : Addr} {a b : Value}
/-! zip(tuple, list) -/
end
end L2

/-! ### E76: zip as what is gone through -/
namespace L2
open PySem PySem.Spec PyProof.Rows
/-! a tuple (true) or a list (false) -/
def SIt (h : Heap) (tp : Bool) (it a : Addr) (i : Nat) : Prop := if tp = true then h.IsTupleIter it a i else h.IsListIter it a i
def SSq (h : Heap) (tp : Bool) (a : Addr) (its : Array Value) : Prop := if tp = true then h.IsTuple a its else h.IsList a its
theorem SIt.obj {h : Heap} {tp : Bool} {it a : Addr} {i : Nat} (x : SIt h tp it a i) : ∃ o, h.get? it = some o ∧ (o.cls = .type "tuple_iterator" ∨ o.cls = .type "list_iterator") ∧ ∃ vs, o.data = .fields vs := by
  cases tp with
  | true => obtain ⟨o, e, c, d⟩ := (show h.IsTupleIter it a i from x); exact ⟨o, e, .inl c, _, d⟩
  | false => obtain ⟨o, e, c, d⟩ := (show h.IsListIter it a i from x); exact ⟨o, e, .inr c, _, d⟩
theorem SSq.obj {h : Heap} {tp : Bool} {a : Addr} {its : Array Value} (x : SSq h tp a its) : ∃ o, h.get? a = some o ∧ (o.cls = .type "tuple" ∨ o.cls = .type "list") := by
  cases tp with
  | true => obtain ⟨o, e, c, _⟩ := (show h.IsTuple a its from x); exact ⟨o, e, .inl c⟩
  | false => obtain ⟨o, e, c, _⟩ := (show h.IsList a its from x); exact ⟨o, e, .inr c⟩
theorem SIt.at {h h' : Heap} {tp : Bool} {it a : Addr} {i : Nat} (x : SIt h tp it a i) (k : ∀ o, h.get? it = some o → h'.get? it = some o) : SIt h' tp it a i := by
  cases tp with
  | true => obtain ⟨o, e, r⟩ := (show h.IsTupleIter it a i from x); exact ⟨o, k o e, r⟩
  | false => obtain ⟨o, e, r⟩ := (show h.IsListIter it a i from x); exact ⟨o, k o e, r⟩
theorem SSq.at {h h' : Heap} {tp : Bool} {a : Addr} {its : Array Value} (x : SSq h tp a its) (k : ∀ o, h.get? a = some o → h'.get? a = some o) : SSq h' tp a its := by
  cases tp with
  | true => obtain ⟨o, e, r⟩ := (show h.IsTuple a its from x); exact ⟨o, k o e, r⟩
  | false => obtain ⟨o, e, r⟩ := (show h.IsList a its from x); exact ⟨o, k o e, r⟩
section
variable {X : Cx} {pins : List (Addr × Obj)} {σ : St} {H : Hp} {s : Shared} {a : Addr} {xs ys : List V} {tp : Bool}
end
/-- where the two of them and the zip's own things stand -/
structure ZipAt (h : Heap) (tp : Bool) (a b z TI TO i1 i2 : Addr) (i : Nat) : Prop where
  zip : IsZip h z TI TO .none
  its : IsPair h TI (.ref i1) (.ref i2)
  out : ∃ u v, IsPair h TO u v
  one : SIt h tp i1 a i
  two : SIt h false i2 b i
end L2

/-! ### E77: lists of ints that are changed no more are frozen: they are then as the script is, things that cannot change -/
namespace L2
open PySem PySem.Spec PyProof.Rows
section
variable {ob : Addr → Obj} {L : Addr → Bool} {H : Hp} {a : Addr}
end
section
variable {K : PySem.W.Frag} {ob : Addr → Obj} {L : Addr → Bool} {H0 H : Hp} {B B0 : Addr → Prop} {σ : St} {δ : SS} {R : Nat → List Addr}
end
/-! [[1, 2], [3]]: the inner ones -/
section
variable {K : PySem.W.Frag} {ob : Addr → Obj} {L : Addr → Bool} {H : Hp}
end
/-! ahead of a statement: an owned list of ints; the inner lists of an owned list -/
section
variable {X : Cx} {H0 : Hp} {B0 : Addr → Prop} {fr : Bool} {RX : XR} {st : Stmt}
end
end L2

/-! ### E78: x in xs, where xs may be frozen; tuple(xs) of such a one -/
namespace L2
open PySem PySem.Spec PyProof.Rows
section
variable {X : Cx}
variable {a b : Expr} {f g : DE} {pos : Pos}
/-! tuple(xs) -/
end
end L2

/-! ### E79: max(xs) and len(set(xs)) of a tuple of ints; {"a": x, "b": y} -/
namespace PySem
section
variable {prog : Program} {w : World} {A : Around} {E : Value → Shared → Prop} {s : Shared}
set_option maxHeartbeats 3200000 in
open PyProof.Rows in
end
end PySem
namespace L2
open PySem PySem.Spec PyProof.Rows
section
variable {X : Cx} {e : Expr} {te : TE} {p p' pos pos' : Pos}
variable {f : DE}
/-! max of a tuple -/
/-! {"a": x, "b": y}, x and y things that cannot change -/
end
end L2

/-! ### E80: a dict of two words -/
namespace L2
open PySem PySem.Spec PyProof.Rows
section
variable {X : Cx} {ka va kb vb : Expr} {pos : Pos} {fa fb fc fd : DE}
end
end L2

/-! ### E81: name = [elt for a, b in iter if c] -/
namespace L2
open PySem PySem.Spec PyProof.Rows
section
variable {X : Cx} {N' : List Str} {sc : Scope} {iter elt : Expr} {ifs : List Expr} {n : Nat} {x x' : Str} {px px' tp pos : Pos} {x1 : Nat} {fi : DS → Option (List D)} {fc : DS → Option Bool} {fe : DE}
end
end L2

/-! ### E82: defs that may raise and hand back what is shared -/
namespace L2
open PySem PySem.Spec PyProof.Rows
section
variable {P : Program} {w : World} {K : PySem.W.Frag} {mg : Str → Option Value} {base : Heap}
end
section
variable {X : Cx} {k : Nat} {sp : Sp} {cl : Nat → Value} {RX : XR} {x : Str} {p pos pos2 : Pos} {e : Expr} {es : List Expr} {t : TA}
variable {H0 : Hp} {B0 : Addr → Prop} {fr : Bool} {F : DS → Option XO}
end
end L2

/-! ### E83: x[1].append(n) of a shared tuple (word, list of ints), at the end of the law: what may be of it is forgotten -/
namespace L2
open PySem PySem.Spec PyProof.Rows
section
variable {K : PySem.W.Frag} {H : Hp} {B : Addr → Prop} {m : Addr} {c : Int} {ys : List V}
end
section
variable {K : PySem.W.Frag} {H0 H H' : Hp} {B0 : Addr → Prop} {σ : St} {δ : SS} {R : Nat → List Addr}
end
section
variable {X : Cx} {H0 : Hp} {B0 : Addr → Prop} {fr : Bool} {RX : XR} {st1 : Stmt} {sts : List Stmt} {f : DE} {x : Str} {px p2 ap cp pos : Pos} {ke e : Expr}
end
end L2

/-! ### E84: texts: +, <=, in, not in, t[k], t[a:b], len, str(n), int(t), find; for sign in t -/
namespace L2
open PySem PySem.Spec PyProof.Rows
def addS : D → D → Option D
  | .str x, .str y => if x.length + y.length ≤ 1000000 then some (.str (x ++ y)) else none
  | _, _ => none
def leS : D → D → Option D
  | .str x, .str y => some (.bl (!decide (y.cps.toList < x.cps.toList)))
  | _, _ => none
def ninT : D → D → Option D
  | .str x, .str y => some (.bl (!(!(Builtin.Str.occurrences y x 0 y.length 1).isEmpty)))
  | _, _ => none
def ixS : D → D → Option D
  | .str z, .int i => if z.length ≤ 1000000 then (atI z.cps.toList i).map fun c => .str ⟨#[c]⟩ else none
  | _, _ => none
def lenS : List D → Option D
  | [.str z] => if z.length ≤ 1000000 then some (.int z.length) else none
  | _ => none
def strF : List D → Option D
  | [.int n] => if n.natAbs.log2 < 1920 then some (.str (Str.ofString (toString n))) else none
  | _ => none
def intS : List D → Option D
  | [.str x] => if x.length ≤ 640 then (PySem.intText? x).map .int else none
  | _ => none
def sgnL (x : Str) : List D := x.cps.toList.map fun c => .str ⟨#[c]⟩
def sgS : D → Option (List D)
  | .str x => some (sgnL x)
  | _ => none
def dSgn (f : DE) : DS → Option (List D) := fun δ => (f δ).bind sgS
theorem line_big {n : Nat} (h : n ≤ 1000000) : n ≤ sizeLine := by
  have := sizeLine_eq
  omega
section
variable {X : Cx} {a b c e o : Expr} {f g h : DE} {p pos apos cpos p2 : Pos} {tg : Expr}
theorem op_addS : OpR X (binaryOp .Add) (fun x y H Q => ∃ i j : Str, x = .str i ∧ y = .str j ∧ i.length + j.length ≤ 1000000 ∧ Q (.str (i ++ j)) H) := by
  intro pins s σ H x y v u Q I rx ry h
  obtain ⟨i, j, rfl, rfl, hl, q⟩ := h
  obtain ⟨t, rfl⟩ := rx
  obtain ⟨t', rfl⟩ := ry
  exact add_str (fun t' tk => ⟨.str (i ++ j), H, I.kept (t' := tk) (fun _ _ e => e), ⟨_, rfl⟩, q⟩) (line_big hl)
theorem o2_addS {K : PySem.W.Frag} : Op2 K (fun x y H Q => ∃ i j : Str, x = .str i ∧ y = .str j ∧ i.length + j.length ≤ 1000000 ∧ Q (.str (i ++ j)) H) addS := by
  intro H B dx dy d x y Q hB hx hy q k
  unfold addS at q
  split at q
  · split at q
    · rename_i hl
      cases q
      exact ⟨_, _, hx, hy, hl, k _ H (.refl H) rfl⟩
    · cases q
  · cases q
theorem pd_addS (ha : PD X a f) (hb : PD X b g) : PD X (.BinOp a .Add b pos) (d2 addS f g) := pd_op op_addS o2_addS ha hb
theorem op_leS : OpR X (compareOp .LtE) (fun x y H Q => ∃ i j : Str, x = .str i ∧ y = .str j ∧ Q (.bl (!decide (j.cps.toList < i.cps.toList))) H) := by
  intro pins s σ H x y v u Q I rx ry h
  obtain ⟨i, j, rfl, rfl, q⟩ := h
  obtain ⟨t, rfl⟩ := rx
  obtain ⟨t', rfl⟩ := ry
  exact PySem.P.le_str (fin_bl I q rfl)
theorem o2_leS {K : PySem.W.Frag} : Op2 K (fun x y H Q => ∃ i j : Str, x = .str i ∧ y = .str j ∧ Q (.bl (!decide (j.cps.toList < i.cps.toList))) H) leS := by
  intro H B dx dy d x y Q hB hx hy q k
  unfold leS at q
  split at q
  · cases q
    exact ⟨_, _, hx, hy, k _ H (.refl H) rfl⟩
  · cases q
theorem o2_ninT {K : PySem.W.Frag} : Op2 K (fun x y H Q => ∃ i j, x = .str i ∧ y = .str j ∧ Q (.bl (!(!(Builtin.Str.occurrences j i 0 j.length 1).isEmpty))) H) ninT := by
  intro H B dx dy d x y Q hB hx hy q k
  unfold ninT at q
  split at q
  · cases q
    exact ⟨_, _, hx, hy, k _ H (.refl H) rfl⟩
  · cases q
theorem pt_ninT (ha : PD X a f) (hb : PD X b g) (hm : behindInMarks .NotIn b = false := by rfl) : PTD X (.Compare a [.NotIn] [b] pos) (dTest (d2 ninT f g)) := pt_cmpD op_notin_str o2_ninT ha hb hm
theorem o2_ixS {K : PySem.W.Frag} : Op2 K rIxS ixS := by
  intro H B dx dy d x y Q hB hx hy q k
  unfold ixS at q
  split at q
  · rename_i z i
    split at q
    · rename_i hl
      cases e : atI z.cps.toList i with
      | none => rw [e] at q; cases q
      | some c =>
        rw [e] at q
        cases q
        exact ⟨z, i, c, hx, hy, line_big hl, e, k _ H (.refl H) rfl⟩
    · cases q
  · cases q
theorem pd_ixS (ha : PD X a f) (hb : PD X b g) (hs : PlainIx b := by intro _ _; rfl) : PD X (.Subscript a b pos) (d2 ixS f g) := (pe_ix ix_str ha hb hs).imp (two_of o2_ixS)
theorem oa_lenS {K : PySem.W.Frag} : OpA K (fun xs H Q => ∃ x n, xs = [x] ∧ LenV K x H n ∧ Q (.int n) H) lenS := by
  intro H B ds d vs Q hB hr q k
  unfold lenS at q
  split at q
  · split at q
    · rename_i z hl
      cases q
      obtain ⟨v, rfl, r⟩ := reps1 hr
      unfold Rep at r
      subst r
      exact ⟨.str _, _, rfl, ⟨line_big hl, rfl⟩, k _ H (.refl H) rfl⟩
    · cases q
  · cases q
theorem pd_lenS (hg : Gl X "len") (hm : X.mg "len" = none) (h : PD X e f) (he : starEach [e] X.env = [(false, eval e X.env)] := by rfl) : PD X (.Call (.Name "len" p) [e] [] pos) (dCall lenS [f]) :=
  pd_callB call_len oa_lenS hg hm PySem.boot_len (pad_cons h pad_nil he) (by decide) (by decide) he rfl
theorem call_strN : CallR X (.type "str") (fun xs H Q => ∃ n : Int, xs = [.int n] ∧ n.natAbs.log2 < 1920 ∧ Q (.str (Str.ofString (toString n))) H) := by
  intro pins s σ H xs us Q I r h
  obtain ⟨n, rfl, hn, q⟩ := h
  obtain ⟨u, rfl, t, rfl⟩ := vals1 r
  exact PySem.P.str_of_int hn ⟨.str _, H, I.tok _, ⟨_, rfl⟩, q⟩
theorem oa_strN {K : PySem.W.Frag} : OpA K (fun xs H Q => ∃ n : Int, xs = [.int n] ∧ n.natAbs.log2 < 1920 ∧ Q (.str (Str.ofString (toString n))) H) strF := by
  intro H B ds d vs Q hB hr q k
  unfold strF at q
  split at q
  · split at q
    · rename_i n hl
      cases q
      obtain ⟨v, rfl, r⟩ := reps1 hr
      unfold Rep at r
      subst r
      exact ⟨n, rfl, hl, k _ H (.refl H) rfl⟩
    · cases q
  · cases q
theorem pd_strN (hg : Gl X "str") (hm : X.mg "str" = none) (h : PD X e f) (he : starEach [e] X.env = [(false, eval e X.env)] := by rfl) : PD X (.Call (.Name "str" p) [e] [] pos) (dCall strF [f]) :=
  pd_callT call_strN oa_strN hg hm PyProof.Rows.Boot.«str» (pad_cons h pad_nil he) (by decide) (by decide) he rfl
theorem call_intT : CallR X (.type "int") (fun xs H Q => ∃ (x : Str) (n : Int), xs = [.str x] ∧ x.length ≤ 640 ∧ PySem.intText? x = some n ∧ Q (.int n) H) := by
  intro pins s σ H xs us Q I r h
  obtain ⟨x, n, rfl, hl, hn, q⟩ := h
  obtain ⟨u, rfl, t, rfl⟩ := vals1 r
  exact PySem.W.KIN.call_text hn hl ⟨.int n, H, I.tok _, ⟨_, rfl⟩, q⟩
theorem oa_intT {K : PySem.W.Frag} : OpA K (fun xs H Q => ∃ (x : Str) (n : Int), xs = [.str x] ∧ x.length ≤ 640 ∧ PySem.intText? x = some n ∧ Q (.int n) H) intS := by
  intro H B ds d vs Q hB hr q k
  unfold intS at q
  split at q
  · split at q
    · rename_i x hl
      cases e : PySem.intText? x with
      | none => rw [e] at q; cases q
      | some n =>
        rw [e] at q
        cases q
        obtain ⟨v, rfl, r⟩ := reps1 hr
        unfold Rep at r
        subst r
        exact ⟨x, n, rfl, hl, e, k _ H (.refl H) rfl⟩
    · cases q
  · cases q
theorem pd_intT (hg : Gl X "int") (hm : X.mg "int" = none) (h : PD X e f) (he : starEach [e] X.env = [(false, eval e X.env)] := by rfl) : PD X (.Call (.Name "int" p) [e] [] pos) (dCall intS [f]) :=
  pd_callT call_intT oa_intT hg hm PyProof.Rows.Boot.«int» (pad_cons h pad_nil he) (by decide) (by decide) he rfl
/-! for sign in text -/
def Itg (x : Str) : It := ⟨fun i _ => i < x.cps.size, fun i H v H' => H' = H ∧ ∃ c, x.cps[i]? = some c ∧ v = .str ⟨#[c]⟩, fun i _ => x.cps.size ≤ i⟩
def itn (b : Bool) : String := if b = true then "str_ascii_iterator" else "str_iterator"
theorem turn_str {P : Program} {w : World} {K : PySem.W.Frag} {tg : Expr} (x : Str) (t : Tok) (b : Bool) (it : Addr) : Turn P w K tg (Itg x) [it] it (fun i h => h.IsStrIter it (itn b) x t i) where
  mem := by simp
  obj := fun i h st b hb => by
    have e : b = it := by simpa using hb
    subst e
    obtain ⟨o, e, c, d⟩ := st
    exact ⟨o, e, fun v z => by rw [d] at z; cases z⟩
  keep := fun i h h' st k => by
    obtain ⟨o, e, r⟩ := st
    exact ⟨o, k it (by simp) o e, r⟩
  item := by
    intro X hP hw hK hc i pins s σ H E I hf st hg
    subst hP hw hK
    have hg : i < x.cps.size := hg
    obtain ⟨f0, f1, f2, f3, f4, f5⟩ := hf it (by simp)
    have hx : x.cps[i]? = some x.cps[i] := by simp [hg]
    have fin : ∀ h', h'.IsStrIter it (itn b) x t (i + 1) → Heap.SameBut it s.heap h' → ∃ u, some (Value.str ⟨#[x.cps[i]]⟩ s.toks) = some u ∧
        wpAny (model X.prog X.w) X.A (letOwnedTupleGo tg (.ref it) u) (fun _ s2 => ∃ x_1 H', Inv X pins σ H' s2 ∧ RelV x_1 u ∧ (Itg x).yld i H x_1 H' ∧ s2.heap.IsStrIter it (itn b) x t (i + 1) ∧ ∀ b ∈ [it], H' b = none) E { s with heap := h', toks := s.toks + 1 } := fun h' st' sb => by
      have I1 : Inv X pins σ H { s with heap := h', toks := s.toks + 1 } := I.turned (t' := s.toks + 1) (fun b o hb e => (sb.2 b hb).trans e) f0 f1 f3 f4 f5
      obtain ⟨o, e, c, d⟩ := id st'
      exact ⟨_, rfl, go_of (s := { s with heap := h', toks := s.toks + 1 }) e c d (by cases b <;> decide) ⟨.str ⟨#[x.cps[i]]⟩, H, I1, ⟨_, rfl⟩, ⟨rfl, _, hx, rfl⟩, st', fun b hb => (hf b hb).1⟩⟩
    cases b with
    | true => exact wpAny_pyNext_ascii_item st hx fin
    | false => exact wpAny_pyNext_wide_item st hx fin
  done := by
    intro X hP hw hK hc i pins s σ H E I hf st hg
    subst hP hw hK
    have hg : x.cps.size ≤ i := hg
    obtain ⟨f0, f1, f2, f3, f4, f5⟩ := hf it (by simp)
    have hx : x.cps[i]? = none := by simp [hg]
    have fin : ∀ h', Heap.ExtBut it s.heap h' → (none : Option Value) = none ∧ Inv X pins σ H { s with heap := h' } := fun h' eb => ⟨rfl, I.turned (t' := s.toks) (fun b o hb e => eb b o hb e) f0 f1 f3 f4 f5⟩
    cases b with
    | true => exact wpAny_pyNext_ascii_end (I.ok.hd hc) st hx fin
    | false => exact wpAny_pyNext_wide_end (I.ok.hd hc) st hx fin
  self := fun _ _ _ _ _ st h => by
    cases b with
    | true => exact wpAny_pyIter_striter_ascii st h
    | false => exact wpAny_pyIter_striter_wide st h
def iSgn (te : TE) : TI := fun σ H R => te σ H fun v H1 => ∃ x : Str, v = .str x ∧ R (Itg x) H1
theorem pi_sgn {l : Expr} {te : TE} (hl : PE X l te) : PI X tg l (iSgn te) := by
  intro pins s σ H R I h
  refine thn (hl pins s σ H _ I h) fun v s1 ⟨xv, H1, I1, r1, x, ex, q⟩ => ?_
  subst ex
  obtain ⟨t, rfl⟩ := r1
  have fin : ∀ b, PIE X pins σ tg R (.ref s1.heap.objs.size) { s1 with heap := s1.heap.push { cls := .type (itn b), data := .fields #[.str x t, .int 0 0] } } := fun b => by
    have I2 : Inv X pins σ H1 { s1 with heap := s1.heap.push { cls := .type (itn b), data := .fields #[.str x t, .int 0 0] } } := I1.kept (t' := s1.toks) fun b o e => Heap.get?_push_of_some _ e
    refine ⟨s1.heap.objs.size, [s1.heap.objs.size], _, _, H1, rfl, I2, turn_str x t b _, ⟨_, Heap.get?_push_size _ rfl, rfl, rfl⟩, fun c hc => ?_, q⟩
    have e : c = s1.heap.objs.size := by simpa using hc
    subst e
    exact I1.fpOk (Nat.le_refl _) (I1.hok.fresh (Nat.le_refl _))
  cases ha : x.cps.all (· < 128) with
  | true => exact wpAny_pyIter_ascii ha (fin true)
  | false => exact wpAny_pyIter_wide ha (fin false)
theorem pi_sgnD {l : Expr} (h : PD X l f) : PID X tg l (dSgn f) := (pi_sgn h).imp fun σ H R ⟨B, δ, ds, hB, S, q, k⟩ => by
  unfold dSgn at q
  cases e : f δ with
  | none => rw [e] at q; cases q
  | some d =>
    rw [e] at q
    have q' : sgS d = some ds := q
    refine ⟨B, δ, d, hB, S, e, fun v H1 s1 r1 => ?_⟩
    unfold sgS at q'
    split at q'
    · rename_i x
      cases q'
      unfold Rep at r1
      refine ⟨x, r1, k _ H1 s1 fun C hC => ⟨fun i H' kp hi => ?_, fun i H' kp hi => ?_, fun i H' v H2 kp hy => ?_⟩⟩
      · have : i < (sgnL x).length := hi
        unfold sgnL at this
        show i < x.cps.size
        simpa using this
      · have : (sgnL x).length ≤ i := hi
        unfold sgnL at this
        show x.cps.size ≤ i
        simpa using this
      · obtain ⟨rfl, c, hc, rfl⟩ := hy
        refine ⟨.refl _, .str ⟨#[c]⟩, fun _ => ?_, rfl⟩
        unfold sgnL
        rw [List.getElem?_map, Array.getElem?_toList, hc]
        rfl
    · cases q'
end
end L2

/-! ### E85: abs(n); // by a divisor of any sign -/
namespace L2
open PySem PySem.Spec PyProof.Rows
instance {i j : Int} : Decidable (CDivN i j) := by unfold CDivN; infer_instance
section
variable {X : Cx} {a b e : Expr} {f g : DE} {p pos : Pos}
end
end L2

/-! ### E86: instances of the program's own classes: attributes, methods that look, methods and defs that change the instance handed in first -/
namespace L2
open PySem PySem.Spec PyProof.Rows
/-- a method of the class of that name -/
structure MethOk (P : Program) (w : World) (K : PySem.W.Frag) (mg : Str → Option Value) (base : Heap) (k : Nat) (cn m : Str) (sp : Sp) : Prop where
  ok : ∃ (C f : Addr) (fd : FuncData) (ps : List Str), PySem.W.nsIn K mainGlobals cn = some (some (.ref C)) ∧ L2.Cls K C ∧ Meth K C m f ∧ Binds K fd ps [] ∧ FnOk P w K mg base CX0 k f fd ps sp
/-! o.f -/
section
variable {X : Cx} {e o : Expr} {es : List Expr} {pos apos p px cp : Pos} {f m cn : Str} {k : Nat}
/-! o.m(..) -/
end
/-! ### a def or method that changes the instance handed in first -/
section
variable {P : Program} {w : World} {K : PySem.W.Frag} {mg : Str → Option Value} {base : Heap}
end
/-! calls of such -/
section
variable {X : Cx} {e : Expr} {es : List Expr} {pos apos p px cp : Pos} {fn m cn x : Str} {k i : Nat} {F : List D → Option (D × D)} {fl : List DE}
variable {H0 : Hp} {B0 : Addr → Prop} {fr : Bool} {RX : XR}
theorem RS.apart {K : PySem.W.Frag} {σ : St} {H H1 : Hp} {δ : SS} {R : Nat → List Addr} {A' : List Addr} (rs : RS K H0 B0 H σ δ R) (s1 : Same H H1) (a : Addr) (h : a ∈ R i ∨ H1 a = none) (n : a ∉ A') : H0 a = none ∧ ∀ r, a ∉ setR R i A' r := by
  refine ⟨h.elim (fun z => rs.new i a z) fun z => rs.keep.free (s1.free z), fun r z => ?_⟩
  by_cases hr : r = i
  · subst hr; rw [setR_same] at z; exact n z
  · rw [setR_ne hr] at z
    rcases h with w | w
    · exact hr (rs.disj r i a z w)
    · obtain ⟨o, q, _⟩ := rs.held r a z
      rw [s1.free w] at q; cases q
end
end L2

/-! ### E87: o.f = e; the book's change_to, a new book; append to what is thrown away -/
namespace L2
open PySem PySem.Spec PyProof.Rows
section
variable {X : Cx} {e value : Expr} {es : List Expr} {pos pos' apos ap p px cp : Pos} {fn m cn x f : Str} {k i : Nat} {fl : List DE} {H0 : Hp} {B0 : Addr → Prop} {fr : Bool} {RX : XR} {g : DE}
/-! ### the book -/
def bkKs : List Str := ["thing_count", "entries", "earlier", "next_number"]
def bk4 {α : Type} (a b c d : α) : List (Str × α) := [("thing_count", a), ("entries", b), ("earlier", c), ("next_number", d)]
end
section
variable {P : Program} {w : World} {K : PySem.W.Frag} {mg : Str → Option Value} {base : Heap}
/-- Book(many) -/
def spI (K : PySem.W.Frag) : Sp := fun vs H Q _ => ∃ (a C dx : Addr) (m : Int), vs = [.ref a, .int m] ∧ H a = some (.ins C dx []) ∧ iclsB K C bkKs = true ∧
  ∀ l1 l2 H', H l1 = none → H l2 = none → l1 ≠ l2 → H' a = some (.ins C dx (bk4 (.int m) (.ref l1) (.ref l2) (.int 0))) → H' l1 = some (.lst []) → H' l2 = some (.lst []) → (∀ b o, b ≠ a → H b = some o → H' b = some o) → (∀ b, H' b = none → H b = none) → Q .non H'
end
structure NewOk (P : Program) (w : World) (K : PySem.W.Frag) (mg : Str → Option Value) (base : Heap) (k : Nat) (cn : Str) : Prop where
  ok : ∃ (C fi : Addr) (fd : FuncData) (ps : List Str), Mk K C fi ∧ mg cn = some (.ref C) ∧ PySem.W.nsIn K mainGlobals cn = some (some (.ref C)) ∧ iclsB K C bkKs = true ∧ Binds K fd ps [] ∧ FnOk P w K mg base CX0 k fi fd ps (spI K)
/-! the calls -/
section
variable {X : Cx} {e value : Expr} {es : List Expr} {pos pos' apos ap p px cp : Pos} {fn m cn x f : Str} {k i : Nat} {fl : List DE} {H0 : Hp} {B0 : Addr → Prop} {fr : Bool} {RX : XR} {g : DE}
end
/-! xs.append(e) of a new list that nobody holds -/
section
variable {X : Cx} {o e : Expr} {pos ap cp : Pos} {fl : List DE} {f : DE} {H0 : Hp} {B0 : Addr → Prop} {fr : Bool} {RX : XR}
end
end L2

/-! ### E88: xs.append(ys.pop(k)) of two owned lists of ints -/
namespace L2
open PySem PySem.Spec PyProof.Rows
section
variable {X : Cx} {H0 : Hp} {B0 : Addr → Prop} {fr : Bool} {RX : XR} {e : Expr} {pos ap cp ap2 cp2 : Pos} {x y : Str} {px py : Pos}
end
end L2

/-! ### E89: methods that may raise; the book's taking back -/
namespace L2
open PySem PySem.Spec PyProof.Rows
structure MethX (P : Program) (w : World) (K : PySem.W.Frag) (mg : Str → Option Value) (base : Heap) (k : Nat) (cn m : Str) (sp : Sp) : Prop where
  ok : ∃ (C f : Addr) (fd : FuncData) (ps : List Str), PySem.W.nsIn K mainGlobals cn = some (some (.ref C)) ∧ L2.Cls K C ∧ Meth K C m f ∧ Binds K fd ps [] ∧ FnOk P w K mg base (CXE P w) k f fd ps sp
section
variable {X : Cx} {k : Nat} {sp : Sp} {cl : Nat → Value} {RX : XR} {o e : Expr} {es : List Expr} {pos apos : Pos} {m cn : Str} {ta : TE} {t : TA} {C f : Addr} {fd : FuncData} {ps : List Str}
end
/-! ### self.entries = self.earlier.pop() -/
section
variable {X : Cx} {x : Str} {px px2 p1 p2 p3 pos pos' : Pos} {i : Nat} {H0 : Hp} {B0 : Addr → Prop} {fr : Bool} {RX : XR}
end
end L2

/-! ### E90: a def or method that changes the instance handed in first, and may raise; such calls in `if not ..:` -/
namespace L2
open PySem PySem.Spec PyProof.Rows
inductive BO where
  | val (o d : D) | exc (c : Nat) (o : D)
section
variable {P : Program} {w : World} {K : PySem.W.Frag} {mg : Str → Option Value} {base : Heap}
end
/-! calls of such -/
section
variable {X : Cx} {e : Expr} {es : List Expr} {pos apos p px cp : Pos} {fn m cn x : Str} {k i : Nat} {F : List D → Option BO} {fl : List DE} {cl : Nat → Value} {RX : XR}
end
inductive BR where
  | val (d : D) (δ : SS) | exc (c : Nat) (δ : SS)
/-- what a look sees besides the slot i -/
def offV (i : Nat) (δ : SS) : DS := allV ((dropBs i δ).set i none)
theorem RS.off {K : PySem.W.Frag} {H0 H : Hp} {B0 : Addr → Prop} {σ : St} {δ : SS} {R : Nat → List Addr} {i : Nat} (h : RS K H0 B0 H σ δ R) : RepS K H (fun a => a ∈ R i) σ (offV i δ) := by
  refine ⟨by unfold offV allV; rw [List.length_map, List.length_set]; simp [dropBs, h.len], fun j d e => ?_⟩
  obtain ⟨x, e', rfl⟩ := allV_get e
  rcases get_set e' with ⟨_, q, _⟩ | ⟨hj, q⟩
  · cases q
  · obtain ⟨q1, q2⟩ := dropBs_get q
    cases x with
    | sh d =>
      obtain ⟨v, e1, r⟩ := h.sh j d q1
      exact ⟨v, e1, r.anti fun a z => .inr ⟨i, z⟩⟩
    | bo r d =>
      have hr : i ≠ r := fun e => q2 d (by rw [e])
      obtain ⟨v, e1, r⟩ := h.bo j r d q1
      exact ⟨v, e1, r.anti fun a z => .inr ⟨i, hr, z⟩⟩
    | ow d =>
      obtain ⟨v, e1, t, _⟩ := h.ow j d q1
      exact ⟨v, e1, t.rep d fun a ha z => hj (h.disj j i a ha z)⟩
section
variable {X : Cx} {e : Expr} {i : Nat} {F : List D → Option BO} {G : List D → Option (D × D)} {fl : List DE} {H0 : Hp} {B0 : Addr → Prop} {fr : Bool} {RX : XR} {pos p2 : Pos} {g h : SS → Option Out} {a b : List Stmt}
end
end L2

/-! ### E91: (a, b, f(..)) of kind X; calls of kind BX in tests and returns -/
namespace L2
open PySem PySem.Spec PyProof.Rows
section
variable {X : Cx} {RX : XR} {a b c : Expr} {pos : Pos} {f g : DE} {F : DS → Option XO}
end
section
variable {X : Cx} {e e2 e3 : Expr} {i : Nat} {F : List D → Option BO} {fl : List DE} {H0 : Hp} {B0 : Addr → Prop} {fr : Bool} {RX : XR} {pos p2 p3 : Pos} {g h : SS → Option Out} {f2 f3 : DE} {a b : List Stmt}
end
end L2

/-! ### E92: defs that are called within an except suite -/
namespace L2
open PySem PySem.Spec PyProof.Rows
structure RoomH (k : Nat) (A : Around) : Prop where
  dp : A.depth + 3 * k + 5 < recursionLimit
  un : A.units + 16 * k + 200 < cLine
abbrev hush (A : Around) : Around := { A with handled := none }
theorem RoomH.room {k : Nat} {A : Around} (r : RoomH k A) : Room k (hush A) := ⟨rfl, r.dp, r.un⟩
theorem RoomH.mono {j k : Nat} {A : Around} (r : RoomH k A) (h : j ≤ k) : RoomH j A := ⟨by have := r.dp; omega, by have := r.un; omega⟩
structure FnOkH (P : Program) (w : World) (K : PySem.W.Frag) (mg : Str → Option Value) (base : Heap) (k : Nat) (f : Addr) (fd : FuncData) (ps : List Str) (sp : Sp) : Prop where
  len : ∀ vs H Q E, sp vs H Q E → vs.length = ps.length
  run : ∀ (A : Around) (outer : List Env) (s : Shared) (H : Hp) (args : Args) (us : List Value) (vs : List V) (Q : VK) (E : XK), RoomH k A → Env0 P w K mg base A outer s H → BindsTo s fd args (ps.zip us) → Vals vs us → sp vs H Q E →
    codeAny (model P w) A (.call (.ref f) args) (CR CX0 outer P w H s Q E) s
structure DefH (P : Program) (w : World) (K : PySem.W.Frag) (mg : Str → Option Value) (base : Heap) (k : Nat) (x : Str) (sp : Sp) : Prop where
  ok : ∃ (f : Addr) (fd : FuncData) (ps : List Str), mg x = some (.ref f) ∧ PySem.W.keepIn K (.ref f) = true ∧ Binds K fd ps [] ∧ FnOkH P w K mg base k f fd ps sp
section
variable {P : Program} {w : World} {K : PySem.W.Frag} {mg : Str → Option Value} {base : Heap}
end
section
variable {X : Cx} {k : Nat} {x : Str} {e : Expr} {es : List Expr} {p pos : Pos}
end
end L2

/-! ### E93: tests that change the state; defs that change an instance and a list -/
namespace L2
open PySem PySem.Spec PyProof.Rows
/-! a list whose address is known, read as a list -/
section
variable {X : Cx} {e e2 : Expr} {pos p2 : Pos} {H0 : Hp} {B0 : Addr → Prop} {fr : Bool} {RX : XR} {a b : List Stmt} {g h : SS → Option Out} {τ υ : SS → Option (Bool × SS)} {i : Nat}
/-! tests that change the state -/
end
end L2

/-! ### E94: lists whose address is known: append, pop; defs that change an instance and a list -/
namespace L2
open PySem PySem.Spec PyProof.Rows
section
variable {X : Cx} {e : Expr} {x : Str} {pos ap cp px p2 p3 : Pos} {H0 : Hp} {B0 : Addr → Prop} {fr : Bool} {RX : XR} {i : Nat} {f : DE}
end
/-! ### a def of three parameters that changes the instance handed in first and a list -/
abbrev F3 := D → List D → D → Option (D × List D × D)
section
variable {P : Program} {w : World} {K : PySem.W.Frag} {mg : Str → Option Value} {base : Heap}
end
section
variable {X : Cx} {e : Expr} {p px py cp : Pos} {fn x y : Str} {k i j : Nat} {F : F3} {f : DE} {H0 : Hp} {B0 : Addr → Prop}
end
end L2

/-! ### E95: an exception leaves a comprehension -/
namespace L2
open PySem PySem.Spec PyProof.Rows
/-- the exception at e, its newest traceback entry at T, whose mark is w -/
def ThrW (h : Heap) (e T : Addr) (cls w : Value) : Prop := ∃ oe vs oT ts, h.get? e = some oe ∧ oe.cls = cls ∧ oe.data = .fields vs ∧ vs[1]? = some (.ref T) ∧ T ≠ e ∧ h.get? T = some oT ∧ oT.data = .fields ts ∧ ts[3]? = some w ∧ oe.dict = none
structure GoneW (S ch : List Addr) (e : Addr) (cls w : Value) (h h' : Heap) : Prop where
  keep : ∀ b o, b ∉ S → b ∉ ch → h.get? b = some o → h'.get? b = some o
  slot : ∀ b o, b ∈ S → b ∉ ch → h.get? b = some o → ∃ sl, h'.get? b = some { o with slots := sl }
  there : ∀ b o, h.get? b = some o → ∃ o', h'.get? b = some o'
  thr : ∃ T, h.objs.size ≤ T ∧ ThrW h' e T cls w
section
variable {M : Model} {A : Around} {E : Value → Shared → Prop} {s : Shared}
theorem note_newW {base : Heap} {env : Env} {outer : List Env} {L e : Addr} {oe : Obj} {vs : Array Value} {head : Value} {hadNext : Bool} {Q : Unit → Shared → Prop}
    (hfr : A.frames = some (env :: outer)) (hl : s.heap.FunFrames base (env :: outer)) (hf : env.frame = some L)
    (he : s.heap.get? e = some oe) (hd : oe.data = .fields vs) (hsz : 1 < vs.size) (hdn : oe.dict = none)
    (h : ∀ h', GoneW (frs (env :: outer)) [e] e oe.cls (rawInt L) s.heap h' → Q () { s with heap := h' }) :
    wpAny M A (do let a ← frameOf env; let pl ← entryPlaceOf L hadNext; let b ← EntryCells.newEntry head a .none (rawInt L) .none pl; setField (.ref e) 1 b) Q E s := by
  have hene : e ∉ frs (env :: outer) := fun hm => by
    obtain ⟨_, o, ho, hnf⟩ := hl.mem hm
    rw [he] at ho; injection ho with ho; subst ho; exact hnf vs hd
  refine wpAny_bind (wpAny_frameOf_fun hfr hl hf fun h₁ hs₁ => ?_)
  refine wpAny_bind (wpAny_entryPlaceOf fun pl hpl => ?_)
  unfold EntryCells.newEntry newFields
  refine wpAny_bind (wpAny_newObj_type ?_ (hpl.sizeOk5 _ _ _ _ _))
  have he₁ : h₁.get? e = some oe := (hs₁.2.1 e hene).trans he
  generalize hob : ({ cls := .type "traceback", dict := none, data := .fields ([head, .ref L, .none, rawInt L, .none] ++ (if pl.isEmpty then List.replicate 6 Value.none else pl)).toArray } : Obj) = ob
  have hobd : ob.data = .fields ([head, .ref L, .none, rawInt L, .none] ++ (if pl.isEmpty then List.replicate 6 Value.none else pl)).toArray := by rw [← hob]
  have hobf : ob.isFreed = false := by rw [← hob]; rfl
  have he₂ := Heap.get?_push_of_some (h := h₁) ob he₁
  refine wpAny_setField he₂ hd hsz (h _ ?_)
  have hTe : h₁.objs.size ≠ e := Nat.ne_of_gt (Heap.lt_size he₁)
  have hd₃ := Obj.data_mapFields hd (·.setIfInBounds 1 (Value.ref h₁.objs.size))
  have he₃ := Heap.get?_update_self (Obj.mapFields (·.setIfInBounds 1 (Value.ref h₁.objs.size))) he₂ (Obj.isFreed_of_fields hd₃)
  have hT₃ := (Heap.get?_update_other (h₁.push ob) (Obj.mapFields (·.setIfInBounds 1 (Value.ref h₁.objs.size))) (Ne.symm hTe)).trans (Heap.get?_push_size h₁ hobf)
  have keep : ∀ b o, b ≠ e → h₁.get? b = some o → ((h₁.push ob).update e (Obj.mapFields (·.setIfInBounds 1 (Value.ref h₁.objs.size)))).get? b = some o := fun b o hbe hb => by
    rw [Heap.get?_update_other _ _ (Ne.symm hbe)]
    exact Heap.get?_push_of_some _ hb
  refine ⟨fun b o hb hc e1 => ?_, fun b o hb hc e1 => ?_, fun b o e1 => ?_, h₁.objs.size, ?_, ?_⟩
  · exact keep b o (fun z => hc (by simp [z])) ((hs₁.2.1 b hb).trans e1)
  · obtain ⟨sl, e2⟩ := hs₁.2.2 b o e1
    exact ⟨sl, keep b _ (fun z => hc (by simp [z])) e2⟩
  · by_cases hb : b = e
    · exact ⟨Obj.mapFields (·.setIfInBounds 1 (Value.ref h₁.objs.size)) oe, by rw [hb]; exact he₃⟩
    · obtain ⟨sl, e2⟩ := hs₁.2.2 b o e1
      exact ⟨_, keep b _ hb e2⟩
  · rw [hs₁.1]
    exact Nat.le_refl _
  · exact ⟨_, _, _, _, he₃, Obj.cls_mapFields _ _, hd₃, by simp [hsz], hTe, hT₃, hobd, by simp, dict_map hdn⟩
theorem note_nextW {base : Heap} {env : Env} {outer : List Env} {L e T : Addr} {cls : Value} {Q : Unit → Shared → Prop}
    (hfr : A.frames = some (env :: outer)) (hl : s.heap.FunFrames base (env :: outer)) (hf : env.frame = some L) (ht : Thr s.heap e T cls)
    (h : ∀ h', GoneW (frs (env :: outer)) [e, T] e cls (rawInt L) s.heap h' → Q () { s with heap := h' }) : wpAny M A (noteFrame (.ref e) env) Q E s := by
  obtain ⟨oe, vs, oT, ts, he, rfl, hd, h1, hTe, hT, hdT, h3, hdn⟩ := ht
  unfold noteFrame
  simp only [hf]
  refine wpAny_bind (wpAny_field he hd h1 ?_)
  rw [if_pos (show (Value.ref T != Value.none) = true from by simp)]
  refine wpAny_bind (wpAny_field hT hdT h3 ?_)
  rw [if_neg (show ¬ ((Value.none == rawInt L) = true) from by simp [rawInt])]
  refine wpAny_bind (wpAny_setField hT hdT (Array.getElem?_eq_some_iff.mp h3).1 ?_)
  have other : ∀ b, b ≠ T → (s.heap.update T (Obj.mapFields (·.setIfInBounds 3 Value.none))).get? b = s.heap.get? b := fun b hb => Heap.get?_update_other _ _ (Ne.symm hb)
  have noRecord : ∀ b o, s.heap.get? b = some o → (∀ vs, o.data ≠ .fields vs) → b ≠ T := fun b o hb hnf q => by
    rw [q, hT] at hb; injection hb with hb; subst hb; exact hnf ts hdT
  refine note_newW hfr (hl.of_keeps fun b o hb hnf => ⟨o, (other b (noRecord b o hb hnf)).trans hb, rfl⟩) hf ((other e (Ne.symm hTe)).trans he) hd (Array.getElem?_eq_some_iff.mp h1).1 hdn fun h' G => h h' ?_
  refine ⟨fun b o hb hc e1 => G.keep b o hb (fun z => hc (List.mem_cons.mpr (.inl (List.mem_singleton.mp z)))) ((other b fun z => hc (by simp [z])).trans e1), fun b o hb hc e1 => G.slot b o hb (fun z => hc (List.mem_cons.mpr (.inl (List.mem_singleton.mp z)))) ((other b fun z => hc (by simp [z])).trans e1), fun b o e1 => ?_, ?_⟩
  · by_cases hb : b = T
    · have e2 : (s.heap.update T (Obj.mapFields (·.setIfInBounds 3 Value.none))).get? b = some (Obj.mapFields (·.setIfInBounds 3 Value.none) oT) := by
        rw [hb]
        exact Heap.get?_update_self _ hT (Obj.isFreed_of_fields (Obj.data_mapFields hdT _))
      exact G.there b _ e2
    · exact G.there b o ((other b hb).trans e1)
  · obtain ⟨T', h1, h2⟩ := G.thr
    exact ⟨T', by rwa [Heap.size_after_update] at h1, h2⟩
/-- the mark is set -/
theorem flightW {e T : Addr} {cls w : Value} {fo : Option Addr} {Q : Unit → Shared → Prop} (ht : ThrW s.heap e T cls w)
    (h : ∀ h', (∀ b, b ≠ T → h'.get? b = s.heap.get? b) → (∀ b o, s.heap.get? b = some o → ∃ o', h'.get? b = some o') → ThrW h' e T cls (fo.elim Value.none fun f => rawInt f) → Q () { s with heap := h' }) : wpAny M A (setFlight (.ref e) fo) Q E s := by
  obtain ⟨oe, vs, oT, ts, he, hcl, hd, h1, hTe, hT, hdT, h3, hdn⟩ := ht
  unfold setFlight
  refine wpAny_bind (wpAny_field he hd h1 ?_)
  rw [if_pos (show (Value.ref T != Value.none) = true from by simp)]
  have hl3 := (Array.getElem?_eq_some_iff.mp h3).1
  have hs := Heap.get?_update_self (Obj.mapFields (·.setIfInBounds 3 (fo.elim Value.none fun f => rawInt f))) hT (Obj.isFreed_of_fields (Obj.data_mapFields hdT _))
  have other : ∀ b, b ≠ T → (s.heap.update T (Obj.mapFields (·.setIfInBounds 3 (fo.elim Value.none fun f => rawInt f)))).get? b = s.heap.get? b := fun b hb => Heap.get?_update_other _ _ (Ne.symm hb)
  refine wpAny_setField hT hdT hl3 (h _ other (fun b o q => ?_) ⟨oe, vs, _, _, (other e (Ne.symm hTe)).trans he, hcl, hd, h1, hTe, hs, Obj.data_mapFields hdT _, ?_, hdn⟩)
  · by_cases hb : b = T
    · subst hb; exact ⟨_, hs⟩
    · exact ⟨o, (other b hb).trans q⟩
  · rw [Array.getElem?_setIfInBounds_self_of_lt hl3]
/-- and a def is left, whatever the mark -/
theorem leaveW {base : Heap} {env : Env} {outer : List Env} {L e T : Addr} {cls w : Value} {Q : Unit → Shared → Prop}
    (hfr : A.frames = some (env :: outer)) (hl : s.heap.FunFrames base (env :: outer)) (hf : env.frame = some L) (ht : ThrW s.heap e T cls w)
    (h : ∀ h' T', (∀ b o, b ∉ frs (env :: outer) → b ∉ [e, T] → s.heap.get? b = some o → h'.get? b = some o) → (∀ b o, b ∈ frs (env :: outer) → b ∉ [e, T] → s.heap.get? b = some o → ∃ sl, h'.get? b = some { o with slots := sl }) → (∀ b o, s.heap.get? b = some o → ∃ o', h'.get? b = some o') →
      (T' = T ∨ s.heap.objs.size ≤ T') → Thr h' e T' cls → Q () { s with heap := h' }) : wpAny M A (leaving env (.ref e)) Q E s := by
  have ht0 := ht
  obtain ⟨oe, vs, oT, ts, he, rfl, hd, h1, hTe, hT, hdT, h3, hdn⟩ := ht
  refine leaving_eq ?_
  unfold noteFrame
  simp only [hf]
  refine wpAny_bind (wpAny_field he hd h1 ?_)
  rw [if_pos (show (Value.ref T != Value.none) = true from by simp)]
  refine wpAny_bind (wpAny_field hT hdT h3 ?_)
  by_cases hw : (w == rawInt L) = true
  · rw [if_pos hw]
    refine wpAny_pure (flightW ht0 fun h' k1 k2 t' => h h' T (fun b o _ hc q => (k1 b fun z => hc (by simp [z])).trans q) (fun b o _ hc q => ⟨o.slots, (k1 b fun z => hc (by simp [z])).trans q⟩) k2 (.inl rfl) t')
  · rw [if_neg hw]
    refine wpAny_bind (wpAny_setField hT hdT (Array.getElem?_eq_some_iff.mp h3).1 ?_)
    have other : ∀ b, b ≠ T → (s.heap.update T (Obj.mapFields (·.setIfInBounds 3 Value.none))).get? b = s.heap.get? b := fun b hb => Heap.get?_update_other _ _ (Ne.symm hb)
    have noRecord : ∀ b o, s.heap.get? b = some o → (∀ vs, o.data ≠ .fields vs) → b ≠ T := fun b o hb hnf q => by
      rw [q, hT] at hb; injection hb with hb; subst hb; exact hnf ts hdT
    refine note_new hfr (hl.of_keeps fun b o hb hnf => ⟨o, (other b (noRecord b o hb hnf)).trans hb, rfl⟩) hf ((other e (Ne.symm hTe)).trans he) hd (Array.getElem?_eq_some_iff.mp h1).1 hdn fun h' G => ?_
    obtain ⟨T', h5, h6⟩ := G.thr
    refine h h' T' (fun b o hb hc e1 => G.keep b o hb (fun z => hc (List.mem_cons.mpr (.inl (List.mem_singleton.mp z)))) ((other b fun z => hc (by simp [z])).trans e1)) (fun b o hb hc e1 => G.slot b o hb (fun z => hc (List.mem_cons.mpr (.inl (List.mem_singleton.mp z)))) ((other b fun z => hc (by simp [z])).trans e1)) (fun b o e1 => ?_) (.inr (by rwa [Heap.size_after_update] at h5)) h6
    by_cases hb : b = T
    · have e2 : (s.heap.update T (Obj.mapFields (·.setIfInBounds 3 Value.none))).get? b = some (Obj.mapFields (·.setIfInBounds 3 Value.none) oT) := by
        rw [hb]
        exact Heap.get?_update_self _ hT (Obj.isFreed_of_fields (Obj.data_mapFields hdT _))
      exact G.there b _ e2
    · exact G.there b o ((other b hb).trans e1)
end
/-- what is wanted of an exception that comes out of a comprehension -/
def XL (X : Cx) (cl : Nat → Value) (RX : XR) : Prop := ∀ (pins : List (Addr × Obj)) (σ : St) (H : Hp) (s : Shared) (ea T : Addr) (c : Nat) (w : Value), Inv X pins σ H s → FpX X pins H ea → FpX X pins H T → ThrW s.heap ea T (cl c) w → RX c σ H → X.xe (.ref ea) s
section
variable {P : Program} {w : World} {K : PySem.W.Frag} {mg : Str → Option Value} {base : Heap}
theorem xl_def {N : List Str} {qual : Str} {scope : Scope} {f : Addr} {cd : Value} {A : Around} {outer : List Env} {s : Shared} {H : Hp} {E : XK} {cl : Nat → Value} : XL (cxOf (CXE P w) P w K mg base N qual scope f cd A outer s H E) cl (fun c _ H => E (cl c) none H) := by
  intro pins σ H1 s1 ea T c w' I fe fT th hE
  refine leaveW (base := base) (outer := outer) I.ok.frames I.stack rfl th fun h' T' k1 k2 k3 hT' th' => ?_
  have I' := I.gone3 (ch := [ea, T]) k1 k2 k3 fun b hb => by
    rcases List.mem_cons.mp hb with rfl | hb
    · exact fe
    · rw [List.mem_singleton.mp hb]; exact fT
  have nn : ∀ b, FpX (cxOf (CXE P w) P w K mg base N qual scope f cd A outer s H E) pins H1 b → s.heap.get? b = none := fun b fb => by
    rcases fb.2.2.1 with z | z
    · exact absurd (show b ∈ ([] : List Addr) from z) (by simp)
    · exact z
  have hT : s.heap.get? T' = none ∧ H1 T' = none := by
    rcases hT' with rfl | z
    · exact ⟨nn _ fT, fT.1⟩
    · exact ⟨Heap.get?_none_of_le (Nat.le_trans I.sz z), I.hok.fresh z⟩
  exact ⟨ea, T', cl c, H1, rfl, I'.os, I'.bare, I'.base, I'.hok, nn _ fe, hT.1, fe.1, hT.2, th', hE⟩
end
section
variable {X : Cx} {N' : List Str} {k : Nat} {sc : Scope} {pins : List (Addr × Obj)} {σ : St} {H : Hp} {s : Shared} {fp : List Addr} {cl : Nat → Value} {RXc : Nat → Hp → Prop} {use : Option (Value → Sem Unit)} {Q : Value → Shared → Prop} {acc : Value}
theorem xw_comp (hst : X.stack = X.env :: X.outer) (hfr : ∃ L, X.env.frame = some L) (hL : XL X cl (fun c _ H => RXc c H)) (I : Inv X pins σ H s) (hf : ∀ b ∈ fp, FpOk X pins H b) :
    XW (cxComp X N' sc s H fp pins (notedBy (model X.prog X.w) X.A (compEnvC sc (cellsFrom (s.heap.objs.size + 1) sc.names (closL X.env.cells sc.names [])) s.heap.objs.size X.env) fun e s' => compPost (model X.prog X.w) X.A X.xe use Q acc s.heap.objs.size (.error e) s')) cl (fun c _ H => RXc c H) := by
  intro pins' σ' H' s' ea T c J fe fT th hE
  obtain ⟨L, hL0⟩ := hfr
  show wpAny (model X.prog X.w) X.A (noteFrame (.ref ea) X.env) _ _ s'
  have fr := I.ok.frames
  have stk : s'.heap.FunFrames X.base X.stack := J.stack
  rw [hst] at fr stk
  refine note_nextW fr stk hL0 th fun h1 G => ?_
  have J1 := J.gone3 (ch := [ea, T]) (h' := h1) (by show ∀ b o, b ∉ frs X.stack → _; rw [hst]; exact G.keep) (by show ∀ b o, b ∈ frs X.stack → _; rw [hst]; exact G.slot) G.there fun b hb => by
    rcases List.mem_cons.mp hb with rfl | hb
    · exact fe
    · rw [List.mem_singleton.mp hb]; exact fT
  have J2 : Inv (cxComp X N' sc s H fp pins (notedBy (model X.prog X.w) X.A (compEnvC sc (cellsFrom (s.heap.objs.size + 1) sc.names (closL X.env.cells sc.names [])) s.heap.objs.size X.env) fun e s' => compPost (model X.prog X.w) X.A X.xe use Q acc s.heap.objs.size (.error e) s')) [] σ' H' { s' with heap := h1 } :=
    ⟨J1.ok, J1.os, J1.bare, J1.base, J1.loc, J1.cell, J1.free, J1.freeC, fun p hp => J1.pin p (by rw [List.append_nil] at hp; exact List.mem_append_left _ hp), J1.hok, J1.len⟩
  have I2 := comp_exit I hf J2
  obtain ⟨T', hT', th'⟩ := G.thr
  obtain ⟨m, hn, _⟩ := J2.loc
  refine ⟨m, hn, fun h2 hb cenv hcenv => ?_⟩
  have hC : H' s.heap.objs.size = none := J2.free
  have I3 := comp_gone I I2 hC hb
  have szJ : s.heap.objs.size < s'.heap.objs.size := J.lt
  have neC : ea ≠ s.heap.objs.size := fe.2.1
  have neT : T' ≠ s.heap.objs.size := Nat.ne_of_gt (Nat.lt_of_lt_of_le szJ hT')
  have th2 : ThrW h2 ea T' (cl c) (rawInt L) := by
    obtain ⟨oe, vs, oT, ts, a1, a2, a3, a4, a5, a6, a7, a8, a9⟩ := th'
    exact ⟨oe, vs, oT, ts, (hb.2 ea neC).trans a1, a2, a3, a4, a5, (hb.2 T' neT).trans a6, a7, a8, a9⟩
  have fT' : FpX X pins H' T' := I.fpX (Heap.get?_none_of_le (Nat.le_trans (Nat.le_of_lt szJ) hT')) (J.hok.fresh hT')
  have fe' : FpX X pins H' ea := by
    rcases fe.2.2.1 with z | z
    · obtain ⟨_, b2, _, b4, b5, b6⟩ := hf ea z
      exact ⟨fe.1, b2, b4.imp id fun q => Heap.get?_none_of_le q, b5, b6⟩
    · exact I.fpX z fe.1
  unfold PySem.passOn
  obtain ⟨oe, vs, oT, ts, a1, a2, a3, a4, a5, a6, a7, a8, a9⟩ := th2
  refine wpAny_bind (wpAny_field a1 a3 a4 ?_)
  rw [if_neg (show ¬ ((Value.ref T' == Value.none) = true) from by simp)]
  refine wpAny_bind (flightW (s := { s' with heap := h2 }) ⟨oe, vs, oT, ts, a1, a2, a3, a4, a5, a6, a7, a8, a9⟩ fun h3 k1 k2 t3 => wpAny_throw ?_)
  have I4 := I3.gone3 (ch := [T']) (h' := h3) (fun b o _ hc q => (k1 b fun z => hc (by simp [z])).trans q) (fun b o _ hc q => ⟨o.slots, (k1 b fun z => hc (by simp [z])).trans q⟩) k2 fun b hb => by rw [List.mem_singleton.mp hb]; exact fT'
  exact hL pins σ H' _ ea T' c _ I4 fe' fT' t3 hE
end
end L2

/-! ### E96: calls that may raise within a comprehension -/
namespace L2
open PySem PySem.Spec PyProof.Rows
def altO (g h : SS → Option Out) : SS → Option Out := fun δ => match g δ with
  | some o => some o
  | none => h δ
def excO (F : DS → Option XO) : SS → Option Out := fun δ => (F (allV δ)).bind fun o => match o with
  | .exc c => some (.ex c δ)
  | _ => none
section
variable {X : Cx} {st : Stmt} {g h : SS → Option Out} {H0 : Hp} {B0 : Addr → Prop} {fr : Bool} {RX : XR}
theorem s_or (h1 : PS X st (tS X.K H0 B0 fr RX g)) (h2 : PS X st (tS X.K H0 B0 fr RX h)) : PS X st (tS X.K H0 B0 fr RX (altO g h)) := fun pins s σ H D I ⟨δ, R, o, rs, q, k⟩ => by
  unfold altO at q
  cases e : g δ with
  | some o' =>
    rw [e] at q
    cases q
    exact h1 pins s σ H D I ⟨δ, R, o, rs, e, k⟩
  | none =>
    rw [e] at q
    exact h2 pins s σ H D I ⟨δ, R, o, rs, q, k⟩
end
section
variable {X : Cx} {N' : List Str} {k n : Nat} {sc : Scope} {tg iter elt e : Expr} {ifs : List Expr} {pos p cp rpos px : Pos} {x : Str} {gt : TG} {tc : TT} {te : TE} {wi : TI} {cl : Nat → Value} {RXc : Nat → Hp → Prop} {fi : DS → Option (List D)} {F : DS → Option XO} {H0 : Hp} {B0 : Addr → Prop} {fr : Bool} {RX : XR}
def tEx (K : PySem.W.Frag) (RX : XR) (F : DS → Option XO) : TE := fun σ H _ => ∃ δ c, RepS K H noB σ δ ∧ F δ = some (.exc c) ∧ ∀ H', Same H H' → RX c σ H'
end
end L2

/-! ### E97: texts: t * n, t.split(u), t.join(ts) -/
namespace L2
open PySem PySem.Spec PyProof.Rows
def repT (x : Str) (n : Int) : Str := if n < 1 then Str.empty else if (n == 1 || x.length == 0) = true then x else ⟨(List.replicate n.toNat x.cps).foldl (· ++ ·) #[]⟩
def mulS : D → D → Option D
  | .str x, .int n => if x.length = 1 ∧ n ≤ 1000 ∧ -1000 ≤ n then some (.str (repT x n)) else none
  | _, _ => none
def splS : D → D → Option (List D)
  | .str x, .str y => if x.length ≤ 1000000 ∧ (y.length == 0) = false ∧ (Txt.split x y).length ≤ 1000000 then some ((Txt.split x y).map .str) else none
  | _, _ => none
def strs' : List D → Option (List Str)
  | [] => some []
  | .str x :: r => (strs' r).map (x :: ·)
  | _ => none
def joinS : D → D → Option D
  | .str x, .lst ds => (strs' ds).bind fun ts => if JoinOk x ts = true then some (.str (Txt.join x ts)) else none
  | _, _ => none
theorem strs_some : ∀ {ds : List D} {ts : List Str}, strs' ds = some ts → ds = ts.map .str
  | [], ts, h => by cases h; rfl
  | .str x :: r, ts, h => by
    have h : (strs' r).map (x :: ·) = some ts := h
    cases e : strs' r with
    | none => rw [e] at h; cases h
    | some us => rw [e] at h; cases h; rw [List.map_cons, ← strs_some e]
theorem reps_strs {K : PySem.W.Frag} {H : Hp} {B : Addr → Prop} : ∀ ns : List Str, Reps K H B (ns.map D.str) (ns.map V.str)
  | [] => .nil
  | n :: ns => .cons rfl (reps_strs ns)
theorem reps_str {K : PySem.W.Frag} {H : Hp} {B : Addr → Prop} : ∀ {ns : List Str} {xs : List V}, Reps K H B (ns.map D.str) xs → xs = ns.map V.str
  | [], _, h => by unfold Reps at h; exact h
  | n :: ns, _, h => by
    rw [List.map_cons] at h
    unfold Reps at h
    obtain ⟨x, r, rfl, h1, h2⟩ := h
    unfold Rep at h1
    subst h1
    rw [reps_str h2, List.map_cons]
theorem vals_strs : ∀ (l : List (Str × Tok)), Vals ((l.map (·.1)).map V.str) (strValues l)
  | [] => .nil
  | p :: r => .cons ⟨p.2, rfl⟩ (vals_strs r)
theorem strs_vals : ∀ {ts : List Str} {us : List Value}, Vals (ts.map V.str) us → ∃ l : List (Str × Tok), l.map (·.1) = ts ∧ us = strValues l
  | [], _, .nil => ⟨[], rfl, rfl⟩
  | x :: r, _, .cons ⟨t, e⟩ h => by
    obtain ⟨l, e1, e2⟩ := strs_vals h
    subst e e2 e1
    exact ⟨(x, t) :: l, rfl, rfl⟩
section
variable {X : Cx} {a b c e o : Expr} {f g h : DE} {p pos apos cpos p2 : Pos} {tg : Expr}
theorem repT_len {x : Str} {n : Int} (hx : x.length = 1) (h : n ≤ 1000) : (repT x n).length ≤ sizeLine := by
  have hs := sizeLine_eq
  unfold repT
  split
  · show Str.empty.length ≤ sizeLine
    decide
  · split
    · omega
    · have : ∀ (k : Nat) (z : Array Nat), ((List.replicate k x.cps).foldl (· ++ ·) z).size = z.size + k := by
        intro k
        induction k with
        | zero => intro z; rfl
        | succ k ih =>
          intro z
          rw [List.replicate_succ, List.foldl_cons, ih, Array.size_append]
          have : x.cps.size = 1 := hx
          omega
      show ((List.replicate n.toNat x.cps).foldl (· ++ ·) #[]).size ≤ sizeLine
      rw [this]
      simp
      omega
theorem op_mulS : OpR X (binaryOp .Mult) (fun x y H Q => ∃ (i : Str) (n : Int), x = .str i ∧ y = .int n ∧ (i.length = 1 ∧ n ≤ 1000 ∧ -1000 ≤ n) ∧ Q (.str (repT i n)) H) := by
  intro pins s σ H x y v u Q I rx ry h
  obtain ⟨i, n, rfl, rfl, ⟨h1, h2, h3⟩, q⟩ := h
  obtain ⟨t, rfl⟩ := rx
  obtain ⟨t', rfl⟩ := ry
  have hz := repT_len h1 h2
  refine PySem.P.mul_str ?_ (fun a1 a2 => ?_) (fun a1 a2 => ?_) ?_
  · rw [decide_eq_false (by omega), decide_eq_false (by omega)]; rfl
  · rw [h1]
    have : (1 : Int) ≤ (2 ^ 63 - 1) / n := Int.le_ediv_of_mul_le (by omega) (by omega)
    exact Int.not_lt.mpr this
  · rw [h1]
    have hs := sizeLine_eq
    show decide (1 * n.toNat > sizeLine) = false
    rw [decide_eq_false (by omega)]
  · unfold repT at q hz
    by_cases hn : n < 1
    · rw [if_pos hn] at q hz ⊢
      exact ⟨hz, ⟨.str _, H, I.tok _, ⟨_, rfl⟩, q⟩⟩
    · rw [if_neg hn] at q hz ⊢
      by_cases h1 : (n == 1 || i.length == 0) = true
      · rw [if_pos h1] at q hz ⊢
        exact ⟨.str _, H, I, ⟨_, rfl⟩, q⟩
      · rw [if_neg h1] at q hz ⊢
        exact ⟨hz, ⟨.str _, H, I.tok _, ⟨_, rfl⟩, q⟩⟩
theorem o2_mulS {K : PySem.W.Frag} : Op2 K (fun x y H Q => ∃ (i : Str) (n : Int), x = .str i ∧ y = .int n ∧ (i.length = 1 ∧ n ≤ 1000 ∧ -1000 ≤ n) ∧ Q (.str (repT i n)) H) mulS := by
  intro H B dx dy d x y Q hB hx hy q k
  unfold mulS at q
  split at q
  · split at q
    · rename_i hl
      cases q
      exact ⟨_, _, hx, hy, hl, k _ H (.refl H) rfl⟩
    · cases q
  · cases q
theorem pd_mulS (ha : PD X a f) (hb : PD X b g) : PD X (.BinOp a .Mult b pos) (d2 mulS f g) := pd_op op_mulS o2_mulS ha hb
theorem mt_split : MtR X "str.split" (fun x vs H Q => ∃ i j : Str, x = .str i ∧ vs = [.str j] ∧ (i.length ≤ 1000000 ∧ (j.length == 0) = false ∧ (Txt.split i j).length ≤ 1000000) ∧ ∀ l, H l = none → Q (.ref l) (upd H l (.lst ((Txt.split i j).map V.str)))) := by
  intro pins s σ H x vs v us Q I rx rv h
  obtain ⟨i, j, rfl, rfl, ⟨h1, hy, h3⟩, q⟩ := h
  obtain ⟨t, rfl⟩ := rx
  obtain ⟨u, rfl, t', rfl⟩ := vals1 rv
  have fin : ∀ (l : List (Str × Tok)) (k : Nat), l.map (·.1) = Txt.split i j → EP X pins σ Q (.ref s.heap.objs.size) { s with toks := k, heap := s.heap.push { cls := .type "list", data := .seq (strValues l).toArray } } := fun l k el => by
    refine ⟨.ref s.heap.objs.size, _, I.laid (a := s.heap.objs.size) (o := .lst ((Txt.split i j).map V.str)) (t' := k) (fun _ _ q => Heap.get?_push_of_some _ q) (Nat.le_refl _) ⟨?_, strValues l, 0, ?_, Heap.get?_push_size _ rfl⟩, rfl, q _ (I.hok.fresh (Nat.le_refl _))⟩
    · rw [List.length_map]; exact line_big h3
    · rw [← el]; exact vals_strs l
  cases h1' : (decide (i.length < j.length) || decide (Builtin.Str.strKind i < Builtin.Str.strKind j))
  · cases hf : (Builtin.Str.occurrences i j 0 i.length (i.length + 1)).isEmpty
    · have es : Txt.split i j = Builtin.Str.partsBetween i (Builtin.Str.occurrences i j 0 i.length (i.length + 1)) j.length := by
        unfold Txt.split
        rw [if_neg (ne_true_of_eq_false h1'), if_neg (ne_true_of_eq_false hf)]
      refine call_meets PySem.F.slot_str_split (typeIs_str _ _ _) PySem.F.entry_str_split (PySem.F.args_str_split_2 _ _) (meets_str_split_sep i j t t' h1' hy hf (line_big h1) (by rw [← es]; exact line_big h3)) ?_
      show wants _ _ _ { s with toks := _, heap := s.heap.push { cls := .type "list", data := .seq (strsFrom s.toks (Builtin.Str.partsBetween i (Builtin.Str.occurrences i j 0 i.length (i.length + 1)) j.length)).toArray } }
      rw [strsFrom_eq]
      exact fin _ _ ((numbered_texts _ _).trans es.symm)
    · refine call_meets PySem.F.slot_str_split (typeIs_str _ _ _) PySem.F.entry_str_split (PySem.F.args_str_split_2 _ _) (meets_str_split_not_found i j t t' h1' hy hf) (fin [(i, t)] _ ?_)
      unfold Txt.split
      rw [if_neg (ne_true_of_eq_false h1'), if_pos hf]
      rfl
  · refine call_meets PySem.F.slot_str_split (typeIs_str _ _ _) PySem.F.entry_str_split (PySem.F.args_str_split_2 _ _) (meets_str_split_cannot_occur i j t t' h1') (fin [(i, t)] _ ?_)
    unfold Txt.split
    rw [if_pos h1']
    rfl
def dSpl (f g : DE) : DS → Option (List D) := fun δ => (f δ).bind fun x => (g δ).bind fun y => splS x y
theorem pf_split (ho : PD X o f) (he : PD X e g) (hbase : attributeBase o "split" X.env (eval o X.env) = eval o X.env := by rfl)
    (hfew : ((backTo cpos (starEach [e] X.env)).all (fun x => !x.1) && (backToKw cpos (keywordEach [] X.env)).all (fun x => x.1.isSome) && decide ([e].length + ([] : List Keyword).length + (if ([] : List Keyword).isEmpty then 0 else 1) < 30)) = true := by rfl)
    (hline : (apos.endLine == cpos.line) = true := by rfl) (hs : starEach [e] X.env = (false, eval e X.env) :: starEach [] X.env := by rfl) :
    PF X (.Call (.Attribute o "split" apos) [e] [] cpos) (dSpl f g) :=
  (pe_bm PySem.F.plainAttrs_str PySem.F.slot_str_split PySem.F.type_str_split mt_split ho (pa_cons he pa_nil hs) hbase hfew hline hs rfl).imp fun σ H Q ⟨B, δ, d, hB, S, q, k⟩ => by
    unfold dSpl at q
    cases e1 : f δ with
    | none => rw [e1] at q; cases q
    | some x =>
    cases e2 : g δ with
    | none => rw [e1, e2] at q; cases q
    | some y =>
    rw [e1, e2] at q
    have e3 : splS x y = some d := q
    unfold splS at e3
    split at e3
    · rename_i i j
      split at e3
      · rename_i hc
        cases e3
        refine ⟨B, δ, _, hB, S, e1, fun v H1 s1 r1 => ?_⟩
        unfold Rep at r1
        subst r1
        refine ⟨rfl, B, δ, _, hB.mono s1, S.mono s1, e2, fun v2 H2 s2 r2 => ?_⟩
        unfold Rep at r2
        subst r2
        exact ⟨i, j, rfl, rfl, hc, fun l hl => k l _ _ ((s1.trans s2).trans (same_upd hl)) ((s1.trans s2).free hl) upd_same (reps_strs _)⟩
      · cases e3
    · cases e3
theorem mt_join : MtR X "str.join" (fun x vs H Q => ∃ (i : Str) (a : Addr) (ts : List Str), x = .str i ∧ vs = [.ref a] ∧ H a = some (.lst (ts.map V.str)) ∧ JoinOk i ts = true ∧ Q (.str (Txt.join i ts)) H) := by
  intro pins s σ H x vs v us Q I rx rv h
  obtain ⟨i, a, ts, rfl, rfl, ha, hj, q⟩ := h
  obtain ⟨t, rfl⟩ := rx
  obtain ⟨u, rfl, rx⟩ := vals1 rv
  cases rx
  obtain ⟨z, its, n, rv, eo⟩ := I.hok a _ ha
  obtain ⟨l, e1, e2⟩ := strs_vals rv
  subst e2
  exact PySem.SC.join ⟨_, eo, rfl, _, rfl⟩ e1 hj fun t' k => ⟨.str _, H, I.tok _, ⟨_, rfl⟩, q⟩
theorem pd_join (ho : PD X o f) (he : PD X e g) (hbase : attributeBase o "join" X.env (eval o X.env) = eval o X.env := by rfl)
    (hfew : ((backTo cpos (starEach [e] X.env)).all (fun x => !x.1) && (backToKw cpos (keywordEach [] X.env)).all (fun x => x.1.isSome) && decide ([e].length + ([] : List Keyword).length + (if ([] : List Keyword).isEmpty then 0 else 1) < 30)) = true := by rfl)
    (hline : (apos.endLine == cpos.line) = true := by rfl) (hs : starEach [e] X.env = (false, eval e X.env) :: starEach [] X.env := by rfl) :
    PD X (.Call (.Attribute o "join" apos) [e] [] cpos) (d2 joinS f g) :=
  (pe_bm PySem.F.plainAttrs_str PySem.F.slot_str_join PySem.F.type_str_join mt_join ho (pa_cons he pa_nil hs) hbase hfew hline hs rfl).imp fun σ H Q ⟨B, δ, d, hB, S, q, k⟩ => by
    obtain ⟨x, y, e1, e2, e3⟩ := d2_some q
    unfold joinS at e3
    split at e3
    · rename_i i ds
      cases e4 : strs' ds with
      | none => rw [e4] at e3; cases e3
      | some ts =>
      rw [e4, Option.bind_some] at e3
      split at e3
      · rename_i hj
        cases e3
        have ed := strs_some e4
        subst ed
        refine ⟨B, δ, _, hB, S, e1, fun v H1 s1 r1 => ?_⟩
        unfold Rep at r1
        subst r1
        refine ⟨rfl, B, δ, _, hB.mono s1, S.mono s1, e2, fun v2 H2 s2 r2 => ?_⟩
        unfold Rep at r2
        obtain ⟨a, xs, rfl, _, ha, rs⟩ := r2
        have ex := reps_str rs
        subst ex
        exact ⟨i, a, ts, rfl, rfl, ha, hj, k _ H2 (s1.trans s2) rfl⟩
      · cases e3
    · cases e3
end
end L2

/-! ### E98: a module's dict of texts to tuples of texts -/
namespace L2
open PySem PySem.Spec PyProof.Rows
def EntsIn (K : PySem.W.Frag) (w : World) : List DictEntry → List (Str × List Str) → Prop
  | [], [] => True
  | e :: es, p :: r => (∃ t b its n, e = { hash := hashStr w p.1, key := .str p.1 t, val := .ref b } ∧ K.lookup b = some { cls := .type "tuple", data := .seq its n } ∧ its.size ≤ sizeLine ∧ Vals (p.2.map V.str) its.toList) ∧ EntsIn K w es r
  | _, _ => False
def WantIn (K : PySem.W.Frag) (w : World) (mg : Str → Option Value) (x : Str) (tbl : List (Str × List Str)) : Prop :=
  ∃ a es ep, mg x = some (.ref a) ∧ (a == sysModules) = false ∧ K.lookup a = some { cls := .type "dict", data := .dict es ep } ∧ EntsIn K w es.toList tbl ∧ (tbl.map (·.1)).Nodup
def lookW (tbl : List (Str × List Str)) (k : Str) : Option (List Str) := (tbl.find? fun p => decide (p.1 = k)).map (·.2)
def wantF (tbl : List (Str × List Str)) : D → Option D
  | .str k => (lookW tbl k).map fun ts => .tup (ts.map .str)
  | _ => none
def nwantF (tbl : List (Str × List Str)) : D → Option D
  | .str k => some (.bl (!(lookW tbl k).isSome))
  | _ => none
theorem ents_pairs {K : PySem.W.Frag} {P : Program} {w : World} : ∀ {es : List DictEntry} {tbl : List (Str × List Str)}, EntsIn K w es tbl → ∃ vs : List (Key × Value), Pairs (mixKind P w) es vs ∧ (∀ e ∈ es, ∃ k, (mixKind P w).is k e.key = true ∧ e.hash = (mixKind P w).hash k) ∧ vs.map (·.1) = tbl.map (fun p => Sum.inr p.1) ∧
    ∀ k, match lookW tbl k with
      | some ts => ∃ b, valueAt vs (Sum.inr k) = some (.ref b) ∧ ∀ H, SqT K H b (ts.map V.str)
      | none => valueAt vs (Sum.inr k) = none
  | [], [], _ => ⟨[], .nil, (fun _ h => by simp at h), rfl, (fun _ => rfl)⟩
  | e :: es, p :: r, ⟨⟨t, b, its, n, h1, h2, h3, h4⟩, hr⟩ => by
    obtain ⟨vs, p1, p2, p3, p4⟩ := ents_pairs (P := P) hr
    subst h1
    refine ⟨(Sum.inr p.1, .ref b) :: vs, .cons (mixKind_str P w p.1 t) rfl p1, fun e he => ?_, by rw [List.map_cons, p3, List.map_cons], fun k => ?_⟩
    · rcases List.mem_cons.mp he with rfl | he
      · exact ⟨Sum.inr p.1, mixKind_str P w p.1 t, rfl⟩
      · exact p2 e he
    · have hk := p4 k
      unfold lookW valueAt at *
      by_cases h : p.1 = k
      · rw [List.find?_cons_of_pos (by simpa using h), List.find?_cons_of_pos (by simpa using h)]
        exact ⟨b, rfl, fun H => .inr ⟨_, its, n, h2, ⟨rfl, rfl⟩, rfl, h3, h4⟩⟩
      · rw [List.find?_cons_of_neg (by simpa using h), List.find?_cons_of_neg (by simpa using h)]
        exact hk
  | [], _ :: _, h => h.elim
  | _ :: _, [], h => h.elim
section
variable {X : Cx} {a b c e o : Expr} {f g h : DE} {p pos : Pos} {x : Str} {tbl : List (Str × List Str)}
theorem want_at {pins : List (Addr × Obj)} {σ : St} {H : Hp} {s : Shared} {d : Addr} {es : Array DictEntry} {ep : Nat} (I : Inv X pins σ H s) (lk : X.K.lookup d = some { cls := .type "dict", data := .dict es ep }) (he : EntsIn X.K X.w es.toList tbl) (hn : (tbl.map (·.1)).Nodup) :
    ∃ vs : List (Key × Value), s.heap.DictOf (mixKind X.prog X.w) d vs ∧ ∀ k, match lookW tbl k with
      | some ts => ∃ b, valueAt vs (Sum.inr k) = some (.ref b) ∧ ∀ H, SqT X.K H b (ts.map V.str)
      | none => valueAt vs (Sum.inr k) = none := by
  obtain ⟨vs, p1, p2, p3, p4⟩ := ents_pairs (P := X.prog) he
  refine ⟨vs, ⟨_, es, ep, I.kIn _ _ lk, ⟨rfl, rfl, rfl⟩, rfl, fun e he => p2 e (by simpa using he), p1, ?_⟩, p4⟩
  rw [p3]
  have e2 : tbl.map (fun p => (Sum.inr p.1 : Key)) = (tbl.map (·.1)).map Sum.inr := by rw [List.map_map]; rfl
  rw [e2]
  exact hn.map _ fun a b z e => z (Sum.inr.inj e)
theorem pd_want (W : WantIn X.K X.w X.mg x tbl) (hg : Gl X x) (he : PD X e f) (hs : NoSl e := by intro _ _; rfl) (hd : (x == ("__debug__" : Str)) = false := by decide) : PD X (.Subscript (.Name x p) e pos) (d1 (wantF tbl) f) := by
  obtain ⟨d, es, ep, hm, hsm, lk, hE, hn⟩ := W
  intro pins s σ H Q I ⟨B, δ, dd, hB, S, q, k⟩
  refine subD_of PySem.F.slot_dict_getitem.lookup hs (thn (pe_glob (v := .ref d) hg hm rfl hd pins s σ H (fun v H' => v = .ref d ∧ H' = H) I ⟨rfl, rfl⟩) fun u s1 ⟨v, H1, I1, rx, ev, eH⟩ => ?_)
  subst ev eH
  obtain rfl : u = Value.ref d := rx
  cases e1 : f δ with
  | none => unfold d1 at q; rw [e1] at q; cases q
  | some dx =>
  have q : wantF tbl dx = some dd := by unfold d1 at q; rw [e1] at q; exact q
  unfold wantF at q
  split at q
  · rename_i kk
    cases e2 : lookW tbl kk with
    | none => rw [e2] at q; cases q
    | some ts =>
    rw [e2] at q
    cases q
    refine thn (he pins s1 σ H1 (fun v H2 => v = .str kk ∧ Same H1 H2) I1 ⟨B, δ, .str kk, hB, S, e1, fun v H2 s2 r2 => ?_⟩) fun iv s2 ⟨y, H2, I2, ry, ey, sm⟩ => ?_
    · unfold Rep at r2
      exact ⟨r2, s2⟩
    · subst ey
      obtain ⟨t, rfl⟩ := ry
      obtain ⟨vs, dk, hv⟩ := want_at I2 lk hE hn
      have hk := hv kk
      rw [e2] at hk
      obtain ⟨b, hb, hq⟩ := hk
      refine ⟨dk.typeIs, wpAny_getItem_of (mixKind_str X.prog X.w kk t) dk.mapOf hb ⟨.ref b, H2, I2.tok _, rfl, k _ _ sm ?_⟩⟩
      unfold Rep
      exact ⟨b, ts.map V.str, rfl, hq _, reps_strs _⟩
  · cases q
theorem pt_nwant (W : WantIn X.K X.w X.mg x tbl) (hg : Gl X x) (he : PD X e f) (hm' : behindInMarks .NotIn (.Name x p) = false := by rfl) (hd : (x == ("__debug__" : Str)) = false := by decide) : PTD X (.Compare e [.NotIn] [.Name x p] pos) (dTest (d1 (nwantF tbl) f)) := by
  obtain ⟨d, es, ep, hm, hsm, lk, hE, hn⟩ := W
  have op : OpR X (compareOp .NotIn) (fun x y H Q => ∃ i : Str, x = .str i ∧ y = .ref d ∧ Q (.bl (!(lookW tbl i).isSome)) H) := by
    intro pins s σ H x y v u Q I rx ry h
    obtain ⟨i, rfl, rfl, q⟩ := h
    obtain ⟨t, rfl⟩ := rx
    obtain rfl : u = Value.ref d := ry
    obtain ⟨vs, dk, hv⟩ := want_at I lk hE hn
    refine wpAny_notIn_of (mixKind_str X.prog X.w i t) hsm dk.mapOf ?_
    have hk := hv i
    cases e2 : lookW tbl i with
    | none =>
      rw [e2] at hk q
      rw [hk]
      exact ⟨.bl true, H, I.tok _, rfl, q⟩
    | some ts =>
      rw [e2] at hk q
      obtain ⟨b, hb, _⟩ := hk
      rw [hb]
      exact ⟨.bl false, H, I.tok _, rfl, q⟩
  refine (pt_cmpR op he (pe_glob (v := .ref d) hg hm rfl hd) hm').imp ?_
  rintro σ H Q ⟨B, δ, bb, hB, S, q, k⟩
  unfold dTest d1 at q
  cases e1 : f δ with
  | none => rw [e1] at q; cases q
  | some dx =>
  rw [e1] at q
  cases dx with
  | str kk =>
    refine ⟨B, δ, .str kk, hB, S, e1, fun v H1 s1 r1 => ?_⟩
    unfold Rep at r1
    subst r1
    have q : some (!(lookW tbl kk).isSome) = some bb := q
    cases q
    exact ⟨kk, rfl, rfl, _, rfl, k H1 s1⟩
  | _ => cases q
end
/-- what K holds of it -/
def WantK (K : PySem.W.Frag) (w : World) (x : Str) (tbl : List (Str × List Str)) : Prop :=
  ∃ a es ep, PySem.W.nsIn K mainGlobals x = some (some (.ref a)) ∧ (a == sysModules) = false ∧ K.lookup a = some { cls := .type "dict", data := .dict es ep } ∧ EntsIn K w es.toList tbl ∧ (tbl.map (·.1)).Nodup
theorem want_of {K : PySem.W.Frag} {w : World} {h : Heap} {mg : Str → Option Value} {x : Str} {tbl : List (Str × List Str)} (X : K.In h) (G : h.Ns mainGlobals mg) (W : WantK K w x tbl) : WantIn K w mg x tbl :=
  let ⟨a, es, ep, h1, h2⟩ := W
  ⟨a, es, ep, PySem.W.mg_of X G h1, h2⟩
end L2

/-! ### E99: a dict display of words -/
namespace L2
open PySem PySem.Spec PyProof.Rows
def dPairs : List (DE × DE) → DS → Option (List (Str × D))
  | [], _ => some []
  | p :: r, δ => (p.1 δ).bind fun x => match x with
    | .str k => (p.2 δ).bind fun d => if d.imm = true then (dPairs r δ).map ((k, d) :: ·) else none
    | _ => none
def dDispN (l : List (DE × DE)) : DE := fun δ => (dPairs l δ).bind fun ps => if (ps.map (·.1)).Nodup ∧ ps.length ≤ 15 then some (.dct (ps.map fun p => Sum.inr p.1) (ps.map (·.2))) else none
section
variable {X : Cx} {pos : Pos}
theorem dp_cons {p : DE × DE} {r : List (DE × DE)} {δ : DS} {ps : List (Str × D)} (h : dPairs (p :: r) δ = some ps) : ∃ k d qs, ps = (k, d) :: qs ∧ p.1 δ = some (.str k) ∧ p.2 δ = some d ∧ d.imm = true ∧ dPairs r δ = some qs := by
  unfold dPairs at h
  obtain ⟨x, e1, h⟩ := Option.bind_eq_some_iff.mp h
  split at h
  · rename_i k
    obtain ⟨d, e2, h⟩ := Option.bind_eq_some_iff.mp h
    split at h
    · rename_i hi
      obtain ⟨qs, e3, h⟩ := Option.map_eq_some_iff.mp h
      exact ⟨k, d, qs, h.symm, e1, e2, hi, e3⟩
    · cases h
  · cases h
theorem dp_imm : ∀ {l : List (DE × DE)} {δ : DS} {ps : List (Str × D)}, dPairs l δ = some ps → ∀ p ∈ ps, p.2.imm = true
  | [], _, _, h, p, hp => by cases h; cases hp
  | a :: r, δ, ps, h, p, hp => by
    obtain ⟨k, d, qs, rfl, _, _, hi, hr⟩ := dp_cons h
    rcases List.mem_cons.mp hp with rfl | hp
    · exact hi
    · exact dp_imm hr p hp
theorem tpairs_of {K : PySem.W.Frag} {σ : St} {δ : DS} : ∀ {l : List (DE × DE)} {ps : List (Str × D)} {H : Hp} {Q : List (V × V) → Hp → Prop}, RepS K H noB σ δ → dPairs l δ = some ps →
    (∀ vs H', Same H H' → Reps K H' noB (ps.map (·.2)) vs → Q ((List.zipWith (fun (p : Str × D) v => ((Sum.inr p.1 : Key), v)) ps vs).map fun kv => (kV kv.1, kv.2)) H') → tPairs (l.map fun p => (tD K p.1, tD K p.2)) σ H Q
  | [], ps, H, Q, S, h, k => by
    cases h
    exact k [] H (.refl H) .nil
  | a :: r, ps, H, Q, S, h, k => by
    obtain ⟨x, d, qs, rfl, e1, e2, hi, hr⟩ := dp_cons h
    rw [List.map_cons]
    refine ⟨noB, δ, _, .no, S, e1, fun v1 H1 s1 r1 => ⟨noB, δ, _, .no, S.mono s1, e2, fun v2 H2 s2 r2 => ?_⟩⟩
    unfold Rep at r1
    subst r1
    refine tpairs_of ((S.mono s1).mono s2) hr fun vs H' s' rs => ?_
    exact k (v2 :: vs) H' ((s1.trans s2).trans s') (.cons (r2.mono s') rs)
theorem merge_new : ∀ (kvs acc : List (Key × V)), ((acc ++ kvs).map (·.1)).Nodup → mergeK acc kvs = acc ++ kvs
  | [], acc, _ => by rw [List.append_nil]; rfl
  | p :: r, acc, h => by
    have hn : valV acc p.1 = none := by
      cases e : valV acc p.1 with
      | none => rfl
      | some v =>
        exfalso
        have ha : (acc.any fun kv => decide (kv.1 = p.1)) = true := by rw [valV_any, e]; rfl
        obtain ⟨q, hq, hk⟩ := List.any_eq_true.mp ha
        have hk : q.1 = p.1 := of_decide_eq_true hk
        rw [List.map_append, List.map_cons] at h
        exact (List.nodup_append.mp h).2.2 q.1 (List.mem_map.mpr ⟨q, hq, rfl⟩) p.1 (List.mem_cons_self ..) hk
    show mergeK (putK acc p.1 p.2) r = _
    rw [putK_new p.2 hn]
    have e : acc ++ [(p.1, p.2)] ++ r = acc ++ p :: r := by simp
    rw [merge_new r _ (by rw [e]; exact h), e]
theorem zip_keys : ∀ {ps : List (Str × D)} {vs : List V}, vs.length = ps.length → (List.zipWith (fun (p : Str × D) v => ((Sum.inr p.1 : Key), v)) ps vs).map (·.1) = ps.map fun p => Sum.inr p.1
  | [], [], _ => rfl
  | p :: ps, v :: vs, h => by
    rw [List.zipWith_cons_cons, List.map_cons, List.map_cons, zip_keys (by simpa using h)]
theorem zip_vals : ∀ {ps : List (Str × D)} {vs : List V}, vs.length = ps.length → (List.zipWith (fun (p : Str × D) v => ((Sum.inr p.1 : Key), v)) ps vs).map (·.2) = vs
  | [], [], _ => rfl
  | p :: ps, v :: vs, h => by
    rw [List.zipWith_cons_cons, List.map_cons, zip_vals (by simpa using h)]
theorem imm_trees {K : PySem.W.Frag} {H H' : Hp} (kp : KeepI K H H') : ∀ {ds : List D} {vs : List V}, (∀ d ∈ ds, d.imm = true) → Reps K H noB ds vs → Trees K H' ds vs []
  | [], vs, _, h => by unfold Reps at h; unfold Trees; exact ⟨h, rfl⟩
  | d :: ds, vs, hi, h => by
    unfold Reps at h
    obtain ⟨v, r, rfl, h1, h2⟩ := h
    unfold Trees
    exact ⟨v, r, [], [], rfl, Tree.keep kp d (Rep.immTree d (hi d (List.mem_cons_self ..)) h1) (fun _ ha => nomatch ha), imm_trees kp (fun d hd => hi d (List.mem_cons_of_mem _ hd)) h2, rfl⟩
theorem pn_dispN {keys : List (Option Expr)} {values : List Expr} {l : List (DE × DE)} (h : PPs X pos keys values (l.map fun p => (tD X.K p.1, tD X.K p.2))) (hall : keys.all (·.isSome) = true := by rfl) (hl : keys.length = values.length := by rfl) (h0 : keys ≠ [] := by simp) (h15 : keys.length ≤ 15 := by simp) :
    PN X (.Dict keys values pos) (dDispN l) := (pe_disp h hall hl h0 h15).imp fun σ H Q ⟨δ, d, S, q, kk⟩ => by
  unfold dDispN at q
  obtain ⟨ps, e1, q⟩ := Option.bind_eq_some_iff.mp q
  split at q
  case isFalse => cases q
  case isTrue hz =>
  cases q
  intro p hp
  have s0 : Same H (upd H p (.dK [])) := same_upd hp
  refine tpairs_of (S.mono s0) e1 fun vs H5 s5 rs => ?_
  have hlen : vs.length = ps.length := by rw [← rs.length]; simp
  have hp5 : H5 p = some (.dK []) := s5 _ _ upd_same
  obtain ⟨kvs, ek⟩ : ∃ kvs, kvs = List.zipWith (fun (p : Str × D) v => ((Sum.inr p.1 : Key), v)) ps vs := ⟨_, rfl⟩
  rw [← ek]
  have k1 : kvs.map (·.1) = ps.map fun p => Sum.inr p.1 := by rw [ek]; exact zip_keys hlen
  have k2 : kvs.map (·.2) = vs := by rw [ek]; exact zip_vals hlen
  have kl : kvs.length ≤ 15 := by have := congrArg List.length k1; simp at this; omega
  have nd : (kvs.map (·.1)).Nodup := by
    rw [k1]
    have e2 : ps.map (fun p => (Sum.inr p.1 : Key)) = (ps.map (·.1)).map Sum.inr := by rw [List.map_map]; rfl
    rw [e2]
    exact hz.1.map _ fun a b z e => z (Sum.inr.inj e)
  refine ⟨hp5, kvs, rfl, kl, ?_⟩
  rw [merge_new kvs [] nd, List.nil_append]
  refine kk (.ref p) _ [p] (fun c o ec => ?_) ?_ (List.nodup_cons.mpr ⟨fun z => (nomatch z), List.nodup_nil⟩) fun c hc => ?_
  · have hcp : c ≠ p := fun z => by rw [z, hp] at ec; cases ec
    rw [upd_ne hcp]
    exact s5 _ _ (s0 _ _ ec)
  · unfold Tree
    refine ⟨p, kvs, [], rfl, upd_same, k1, ?_, rfl⟩
    rw [k2]
    exact imm_trees (Keep.upd (B := fun a => a = p) rfl (by rw [hp5]; exact True.intro)).i (fun d hd => by obtain ⟨p, hp, rfl⟩ := List.mem_map.mp hd; exact dp_imm e1 p hp) rs
  · rw [List.mem_singleton.mp hc]; exact hp
end
end L2

/-! ### E100: an exception from any thing of a comprehension; x.append(e) where e raises -/
namespace L2
open PySem PySem.Spec PyProof.Rows
def excL (h : D → Option XO) : List D → Option XO
  | [] => none
  | x :: r => match h x with
    | some (.exc c) => some (.exc c)
    | some (.val d) => excL h r
    | none => none
def dCompX (fi : DS → Option (List D)) (F : DS → Option XO) : DS → Option XO := fun δ => (fi δ).bind fun xs => if xs.length ≤ 1000000 then excL (fun x => F (δ ++ [some x])) xs else none
def appE (i : Nat) (F : DS → Option XO) : SS → Option Out := fun δ => match δ[i]? with
  | some (some (.ow (.lst _))) => excO F δ
  | _ => none
theorem excL_lt {h : D → Option XO} {c : Nat} : ∀ {xs : List D} {i : Nat}, excL h (xs.drop i) = some (.exc c) → i < xs.length := fun {xs i} e => by
  by_cases z : i < xs.length
  · exact z
  · rw [List.drop_eq_nil_of_le (Nat.le_of_not_lt z)] at e
    cases e
/-- a call that may raise, its value shared -/
def tXn (K : PySem.W.Frag) (RX : XR) (F : DS → Option XO) : TE := fun σ H Q => ∃ δ o, RepS K H noB σ δ ∧ F δ = some o ∧ (match o with
  | .val d => ∀ v H', Same H H' → Rep K H' noB d v → Q v H'
  | .exc c => ∀ H', Same H H' → RX c σ H')
section
variable {X : Cx} {N' : List Str} {k n : Nat} {sc : Scope} {tg iter elt e : Expr} {ifs : List Expr} {pos p cp rpos px ap : Pos} {x y : Str} {gt : TG} {tc : TT} {te : TE} {wi : TI} {cl : Nat → Value} {RXc : Nat → Hp → Prop} {fi : DS → Option (List D)} {F : DS → Option XO} {H0 : Hp} {B0 : Addr → Prop} {fr : Bool} {RX : XR}
theorem pe_compXW (hst : X.stack = X.env :: X.outer) (hfr : ∃ L, X.env.frame = some L) (hL : XL X cl (fun c _ H => RXc c H)) (hc : X.calm = true) (S : CompScope X.N X.env.scope.names N' k sc) (hi : PI X tg iter wi)
    (hg : ∀ s H fp pins E, PG (cxComp X N' sc s H fp pins E) tg gt) (ht : ∀ s H fp pins E, PIfs (cxComp X N' sc s H fp pins E) ifs tc) (he : ∀ s H fp pins E, XW (cxComp X N' sc s H fp pins E) cl (fun c _ H => RXc c H) → PE (cxComp X N' sc s H fp pins E) elt te)
    (hs : ∀ x, foldedSetIterable iter X.env x = pure x := by intro _; rfl) :
    PE X (.ListComp elt [⟨tg, iter, ifs, 0⟩] sc pos) (tComp wi gt tc te k) := by
  intro pins s σ H Q I h
  rw [eval_ListComp]
  refine wpAny_comprehension_free (use := none) rfl hs (closureFor_closL fun n hn => I.ok.has n (S.fr hn)) S.kind S.names' (thn (hi pins s σ H _ I h) fun v s1 h1 => thn h1 fun itv s2 h2 => ?_)
  obtain ⟨it, fp, tn, J, H2, e, I2, T, st2, f2, hW⟩ := h2
  subst e
  refine comp_block (PC := fun s H E => XW (cxComp X N' sc s H fp pins E) cl (fun c _ H => RXc c H)) (Q := Q) (RR := fun acc C => compPost (model X.prog X.w) X.A X.xe none (EP X pins σ Q) acc C) hc S (fun s H E hw => ⟨hg s H _ _ E, ht s H _ _ E, he s H _ _ E hw⟩)
    (fun D s3 H3 I3 hf3 => xw_comp hst hfr hL I3 hf3) I2 T st2 f2 hW ?_
  intro D s3 H3 σ' H' s' E' I3 f3 J' q
  obtain ⟨m, hn, _⟩ := J'.loc
  exact ⟨m, hn, fun h' hb => ⟨.ref D, H', comp_gone I3 (comp_exit I3 f3 J') J'.free hb, rfl, q⟩⟩
/-- [f(..) for x in ..] where f raises at some x -/
theorem pe_compX (hst : X.stack = X.env :: X.outer) (hfr : ∃ L, X.env.frame = some L) (hL : XL X cl (fun c _ H => RXc c H)) (hc : X.calm = true) (S : CompScope X.N X.env.scope.names N' 1 sc) (hn : n = X.N.length) (hi : PID X (.Name x px) iter fi)
    (hg : ∀ s H fp pins E, PG (cxComp X N' sc s H fp pins E) (.Name x px) (gName n)) (ht : ∀ s H fp pins E, PIfs (cxComp X N' sc s H fp pins E) ifs (tT X.K dYes)) (he : ∀ s H fp pins E, XW (cxComp X N' sc s H fp pins E) cl (fun c _ H => RXc c H) → PE (cxComp X N' sc s H fp pins E) elt (tXn X.K (fun c _ H => RXc c H) F))
    (hs : ∀ x, foldedSetIterable iter X.env x = pure x := by intro _; rfl) :
    PE X (.ListComp elt [⟨.Name x px, iter, ifs, 0⟩] sc pos) (tEx X.K (fun c _ H => RXc c H) (dCompX fi F)) := by
  intro pins s σ H Q I ⟨δ, c, rs, q, kk⟩
  refine pe_compXW hst hfr hL hc S hi hg ht he hs pins s σ H Q I ?_
  have hσ : σ.length = n := by rw [hn, I.len]
  unfold dCompX at q
  cases e1 : fi δ with
  | none => rw [e1] at q; cases q
  | some xs =>
  rw [e1, Option.bind_some] at q
  split at q
  case isFalse => cases q
  case isTrue hlen =>
  refine ⟨noB, δ, xs, .no, rs, e1, fun J H1 s1 itw => fun Da hD => ?_⟩
  have it := itw (fun a => H1 a = none) fun a ha => ha
  refine ⟨fun i m σ' H' => m = xs.length - i ∧ (∃ w, σ' = σ ++ [w]) ∧ Same H1 H' ∧ (∃ ys, H' Da = some (.lst ys) ∧ ys.length = i) ∧ excL (fun x => F (δ ++ [some x])) (xs.drop i) = some (.exc c), ⟨xs.length, rfl, ⟨none, rfl⟩, same_upd hD, ⟨[], upd_same, rfl⟩, q⟩, ?_⟩
  rintro i m σ' H' ⟨rfl, ⟨w, rfl⟩, sm, ⟨ys, hys, ly⟩, ex⟩
  have hi' : i < xs.length := excL_lt ex
  have kp : Keep X.K (fun a => noB a ∨ H1 a = none) H1 H' := .same sm
  refine .inr ⟨it.go i H' kp hi', fun σ'' H'' => (∃ w, σ'' = σ ++ [w]) ∧ Same H1 H'' ∧ (∃ ys, H'' Da = some (.lst ys) ∧ ys.length = i + 1) ∧ excL (fun x => F (δ ++ [some x])) (xs.drop (i + 1)) = some (.exc c), fun σ'' H'' ⟨a1, a2, a3, a4⟩ => ⟨xs.length - (i + 1), by omega, rfl, a1, a2, a3, a4⟩, fun xv H2 hy => ?_⟩
  obtain ⟨s2, d, hd, rd⟩ := it.yld i H' xv H2 kp hy
  have hd0 : xs[i]? = some d := hd hi'
  have ed : xs.drop i = d :: xs.drop (i + 1) := by
    rw [List.drop_eq_getElem_cons hi']
    rw [List.getElem?_eq_getElem hi'] at hd0
    rw [Option.some.inj hd0]
  rw [ed] at ex
  unfold excL at ex
  show tT X.K dYes ((σ ++ [w]).set n (some xv)) H2 _
  rw [← hσ, set_snoc]
  have S2 : RepS X.K H2 noB (σ ++ [some xv]) (δ ++ [some d]) := (((rs.mono s1).mono sm).mono s2).snoc (rd.anti fun a z => z.elim)
  refine ⟨noB, δ ++ [some d], true, .no, S2, rfl, fun H3 s3 => iteT ?_⟩
  have st := ((s1.trans sm).trans s2).trans s3
  cases e2 : F (δ ++ [some d]) with
  | none => rw [e2] at ex; cases ex
  | some xo =>
  rw [e2] at ex
  cases xo with
  | exc c' =>
    cases ex
    exact ⟨δ ++ [some d], .exc c, S2.mono s3, e2, fun H4 s4 => kk H4 (st.trans s4)⟩
  | val d' =>
    refine ⟨δ ++ [some d], .val d', S2.mono s3, e2, fun v H4 s4 r4 => ?_⟩
    refine ⟨ys, s4 _ _ (s3 _ _ (s2 _ _ hys)), ?_, ⟨_, rfl⟩, fun b o hb => ?_, ⟨ys ++ [v], upd_same, by simp [ly]⟩, ex⟩
    · have := line_big hlen
      omega
    · have hne : b ≠ Da := fun z => by rw [z, hD] at hb; cases hb
      rw [upd_ne hne]
      exact s4 _ _ (s3 _ _ (s2 _ _ (sm _ _ hb)))
theorem px_nX (h : PE X e (tX X.K RX F)) : PE X e (tXn X.K RX F) := h.imp fun σ H Q ⟨δ, o, S, q, k⟩ => by
  refine ⟨δ, o, S, q, ?_⟩
  cases o with
  | exc c => exact k
  | val d => exact fun v H' A s t _ _ => k v H' s (t.rep d fun _ _ z => z.elim)
theorem pe_exX (h : PE X e (tXn X.K RX F)) : PE X e (tEx X.K RX F) := h.imp fun σ H Q ⟨δ, c, S, q, k⟩ => ⟨δ, .exc c, S, q, k⟩
theorem pe_tupE (hg : Gl X "tuple") (hm : X.mg "tuple" = none) (h : PE X e (tEx X.K RX F)) (he : starEach [e] X.env = (false, eval e X.env) :: starEach [] X.env := by rfl) : PE X (.Call (.Name "tuple" p) [e] [] cp) (tEx X.K RX F) :=
  (pe_callTy (r := fun _ _ _ => False) (T := "tuple") (fun _ _ _ _ _ _ _ _ _ z => z.elim) hg hm rfl (pa_cons h pa_nil he) (by decide) (by decide) he rfl).imp fun σ H Q h => h
theorem s_appE {i : Nat} (hx : PE X (.Name x px) (tVar i)) (he : PE X e (tEx X.K RX F)) (hbase : attributeBase (.Name x px) "append" X.env (eval (.Name x px) X.env) = eval (.Name x px) X.env := by rfl)
    (hfew : ((backTo cp (starEach [e] X.env)).all (fun x => !x.1) && (backToKw cp (keywordEach [] X.env)).all (fun x => x.1.isSome) && decide ([e].length + ([] : List Keyword).length + (if ([] : List Keyword).isEmpty then 0 else 1) < 30)) = true := by rfl)
    (hline : (ap.endLine == cp.line) = true := by rfl) (hs : starEach [e] X.env = (false, eval e X.env) :: starEach [] X.env := by rfl) (hsw : swapsWith (.Call (.Attribute (.Name x px) "append" ap) [e] [] cp) none pos.line X.env = pure false := by rfl) :
    PS X (.Expr (.Call (.Attribute (.Name x px) "append" ap) [e] [] cp) pos) (tS X.K H0 B0 fr RX (appE i F)) :=
  PS.imp (ps_expr (pe_bm PySem.F.plainAttrs_list PySem.F.slot_list_append PySem.F.type_list_append mt_append hx (pa_cons he pa_nil hs) hbase hfew hline hs rfl) hsw) fun D σ H ⟨δ, R, o, rs, q, k⟩ => by
    unfold appE at q
    split at q
    case h_2 => cases q
    case h_1 =>
    rename_i ds ei
    unfold excO at q
    cases e1 : F (allV δ) with
    | none => rw [e1] at q; cases q
    | some xo =>
    rw [e1, Option.bind_some] at q
    cases xo with
    | val d => cases q
    | exc c =>
    cases q
    obtain ⟨a, xs, A, ev, ha, ts, eR, nd⟩ := rs.top ei
    exact ⟨.ref a, ev, .inl ⟨rfl, xs, SqL.of ha⟩, allV δ, c, rs.all, e1, fun H' s' => k σ H' R (rs.mono s') (.same s')⟩
end
end L2

/-! ### E101: written lists of texts, read in one step -/
namespace L2
open PySem PySem.Spec PyProof.Rows
def strE : Expr → Option Str
  | .Constant (.str i) _ _ => some i
  | _ => none
theorem strE_some {e : Expr} {x : Str} (h : strE e = some x) : ∃ j p, e = .Constant (.str x) j p := by
  unfold strE at h
  split at h
  · cases h; exact ⟨_, _, rfl⟩
  · cases h
def litSs : List Expr → Option (List Str)
  | [] => some []
  | e :: r => (strE e).bind fun x => (litSs r).map (x :: ·)
def dLitS (ts : List Str) : DS → Option (List D) := fun _ => some (ts.map .str)
section
variable {X : Cx} {pos : Pos}
theorem se_con {c : Const} {j} {p : Pos} {es : List Expr} {env : Env} : starEach (.Constant c j p :: es) env = (false, eval (.Constant c j p) env) :: starEach es env := rfl
theorem pad_litS {es : List Expr} : ∀ {ts : List Str}, litSs es = some ts → PAD X es (ts.map fun x => dC (.str x)) := by
  induction es with
  | nil => intro rs h; cases h; exact pad_nil
  | cons e r ih =>
    intro rs h
    have h : ((strE e).bind fun x => (litSs r).map (x :: ·)) = some rs := h
    cases e1 : strE e with
    | none => rw [e1] at h; cases h
    | some x =>
      rw [e1, Option.bind_some] at h
      cases e3 : litSs r with
      | none => rw [e3] at h; cases h
      | some ns =>
        rw [e3] at h
        cases h
        obtain ⟨x1, p, rfl⟩ := strE_some e1
        exact pad_cons pd_str (ih e3) se_con
theorem args_litS (δ : DS) : ∀ ts : List Str, dArgs (ts.map fun x => dC (.str x)) δ = some (ts.map .str)
  | [] => rfl
  | r :: rs => by
    have ih := args_litS δ rs
    show ((dC (.str r) δ).bind fun x => (dArgs (rs.map fun x => dC (.str x)) δ).bind fun xs => some (x :: xs)) = _
    rw [ih]
    rfl
theorem dLitS_eq (ts : List Str) : dArgs (ts.map fun x => dC (.str x)) = dLitS ts := by
  funext δ
  rw [args_litS]
  rfl
theorem pf_litS {es : List Expr} {ts : List Str} (h : litSs es = some ts) (hb : Nat.ble ts.length 1000 = true) : PF X (.List es pos) (dLitS ts) := by
  rw [← dLitS_eq]
  exact pf_list (pad_litS h) (by rw [List.length_map]; exact Nat.le_of_ble_eq_true hb)
def elV : Expr → Option (Str × Option Int)
  | .Constant (.str i) _ _ => some (i, none)
  | .BinOp (.Constant (.str i) _ _) .Mult (.Constant (.int n) _ _) _ => some (i, some n)
  | _ => none
def elD : Str × Option Int → DE
  | (i, none) => dC (.str i)
  | (i, some n) => d2 mulS (dC (.str i)) (dC (.int n))
def litVs : List Expr → Option (List (Str × Option Int))
  | [] => some []
  | e :: r => (elV e).bind fun x => (litVs r).map (x :: ·)
theorem se_bin {a b : Expr} {o} {p : Pos} {es : List Expr} {env : Env} : starEach (.BinOp a o b p :: es) env = (false, eval (.BinOp a o b p) env) :: starEach es env := rfl
theorem pad_litV {es : List Expr} : ∀ {ts : List (Str × Option Int)}, litVs es = some ts → PAD X es (ts.map elD) := by
  induction es with
  | nil => intro rs h; cases h; exact pad_nil
  | cons e r ih =>
    intro rs h
    have h : ((elV e).bind fun x => (litVs r).map (x :: ·)) = some rs := h
    cases e1 : elV e with
    | none => rw [e1] at h; cases h
    | some x =>
      rw [e1, Option.bind_some] at h
      cases e3 : litVs r with
      | none => rw [e3] at h; cases h
      | some ns =>
        rw [e3] at h
        cases h
        unfold elV at e1
        split at e1
        · cases e1
          exact pad_cons pd_str (ih e3) se_con
        · cases e1
          exact pad_cons (pd_mulS pd_str pd_int) (ih e3) se_bin
        · cases e1
theorem pf_litV {es : List Expr} {l : List (Str × Option Int)} (h : litVs es = some l) (hb : Nat.ble l.length 1000 = true) : PF X (.List es pos) (dArgs (l.map elD)) := pf_list (pad_litV h) (by rw [List.length_map]; exact Nat.le_of_ble_eq_true hb)
end
section
variable {X : Cx} {H0 : Hp} {B0 : Addr → Prop} {fr : Bool} {RX : XR}
theorem sb {st : Stmt} {g : SS → Option Out} (h : PS X st (tS X.K H0 B0 fr RX g)) : PSb X st (tS X.K H0 B0 fr RX g) := by
  unfold PSb
  exact h
theorem ss_consB {st : Stmt} {sts : List Stmt} {g h : SS → Option Out} (h1 : PSb X st (tS X.K H0 B0 fr RX g)) (h2 : PSsb X sts (tS X.K H0 B0 fr RX h)) : PSsb X (st :: sts) (tS X.K H0 B0 fr RX (seqO g h)) := by
  unfold PSb at h1
  unfold PSsb at h2 ⊢
  exact ss_cons h1 h2
theorem ss_oneB {st : Stmt} {g : SS → Option Out} (h1 : PSb X st (tS X.K H0 B0 fr RX g)) : PSsb X [st] (tS X.K H0 B0 fr RX g) := by
  unfold PSb at h1
  unfold PSsb
  exact ss_one h1
end
end L2

/-! ### E102: x = [written texts] as a whole statement -/
namespace L2
open PySem PySem.Spec PyProof.Rows
section
variable {X : Cx} {H0 : Hp} {B0 : Addr → Prop} {fr : Bool} {RX : XR} {i : Nat} {x : Str} {es : List Expr} {lp p pos' : Pos}
theorem s_asgLS {ts : List Str} (hN : X.N.Nodup) (hi : X.N[i]? = some x) (hx : Loc X.env.scope x) (h : litSs es = some ts) (hb : Nat.ble ts.length 1000 = true) (hf : X.fn x = true ∨ X.env.scope.names.lookup x = some .local) :
    PSb X (.Assign [.Name x pos'] (.List es lp) p) (tS X.K H0 B0 fr RX (asgS i (mkL (dLitS ts)))) := by
  unfold PSb
  exact s_asgS (pas_e hN hi hx (pd_F (pf_litS h hb)) rfl hf)
theorem s_asgLV {l : List (Str × Option Int)} (hN : X.N.Nodup) (hi : X.N[i]? = some x) (hx : Loc X.env.scope x) (h : litVs es = some l) (hb : Nat.ble l.length 1000 = true) (hf : X.fn x = true ∨ X.env.scope.names.lookup x = some .local) :
    PSb X (.Assign [.Name x pos'] (.List es lp) p) (tS X.K H0 B0 fr RX (asgS i (mkL (dArgs (l.map elD))))) := by
  unfold PSb
  exact s_asgS (pas_e hN hi hx (pd_F (pf_litV h hb)) rfl hf)
end
end L2

/-! ### M1: reckoning with the trees' functions -/
namespace L2
open PySem

/-! statements -/
theorem runD_rt {np nl : Nat} {g : SS → Option Out} {ds : List D} {d : D} (hl : ds.length = np) (e : g (ds.map (fun d => some (.sh d)) ++ List.replicate nl none) = some (.rt d)) : runD np nl g ds = some d := by
  unfold runD
  rw [if_pos hl, e]


/-! comprehensions -/
theorem small_line {n : Nat} (h : n ≤ 1000000) : n ≤ sizeLine := by rw [PySem.sizeLine_eq]; omega

/-! values -/
def bD (b : Bool) : D := .bl b
theorem bools_map : ∀ bs : List Bool, bools (bs.map bD) = some bs
  | [] => rfl
  | b :: bs => by
    show (bools (bs.map bD)).map (b :: ·) = _
    rw [bools_map bs]
    rfl
end L2

/-! ### M2: tables of bools -/
namespace L2
open PySem
/-- a square table -/
def Sq (n : Nat) (T : List (List Bool)) : Prop := T.length = n ∧ ∀ r ∈ T, r.length = n
theorem Sq.row {n : Nat} {T : List (List Bool)} (h : Sq n T) {k : Nat} (hk : k < T.length) : T[k].length = n := h.2 _ (List.getElem_mem hk)
theorem Sq.set {n : Nat} {T : List (List Bool)} (h : Sq n T) {a b : Nat} {v : Bool} (ha : a < T.length) : Sq n (T.set a (T[a].set b v)) := by
  refine ⟨by simp [h.1], fun r hr => ?_⟩
  rcases List.mem_or_eq_of_mem_set hr with z | z
  · exact h.2 r z
  · subst z
    rw [List.length_set]
    exact h.row ha
end L2

/-! ### M3: what comes of a mirror, said by what holds behind it -/
namespace L2
open PySem
def hol {α : Type} (x : Option α) (Q : α → Prop) : Prop := ∃ a, x = some a ∧ Q a
section
variable {α β : Type} {Q : α → Prop} {R : β → Prop}
theorem hol_some {a : α} : hol (some a) Q = Q a := propext ⟨fun ⟨_, e, q⟩ => by cases e; exact q, fun q => ⟨a, rfl, q⟩⟩
theorem hol.imp {x : Option α} {Q' : α → Prop} (h : hol x Q) (k : ∀ a, Q a → Q' a) : hol x Q' := let ⟨a, e, q⟩ := h; ⟨a, e, k a q⟩
theorem hol_is {x : Option α} {a : α} : hol x (fun b => b = a) ↔ x = some a := ⟨fun ⟨_, e, q⟩ => q ▸ e, fun e => ⟨a, e, rfl⟩⟩
end
def asB : D → Option Bool
  | .bl b => some b
  | _ => none
def asI : D → Option Int
  | .int i => some i
  | _ => none
def asL : D → Option (List D)
  | .lst ds => some ds
  | _ => none
section
variable {Q : D → Prop} {QB : Bool → Prop} {QL : List D → Prop} {QO : Out → Prop} {δ : DS} {s : SS} {f g h : DE} {F : D → D → Option D}
theorem ho_var0 {x : Option D} {r : DS} : dVar 0 (x :: r) = x := by cases x <;> rfl
/-! statements -/
def owA (i : Nat) (s : SS) : Option D := match s[i]? with
  | some (some (.ow d)) => some d
  | _ => none
/-! what a def comes to -/
theorem run_of {np nl : Nat} {b : SS → Option Out} {ds : List D} {d : D} (hl : ds.length = np) (h : hol (b (ds.map (fun d => some (.sh d)) ++ List.replicate nl none)) fun o => o = .rt d) : runD np nl b ds = some d := runD_rt hl (hol_is.mp h)
theorem hol_run {np nl : Nat} {b : SS → Option Out} {ds : List D} (hl : ds.length = np) (h : hol (b (ds.map (fun d => some (.sh d)) ++ List.replicate nl none)) fun o => ∃ d, o = .rt d ∧ Q d) : hol (runD np nl b ds) Q := by
  obtain ⟨o, e, d, rfl, q⟩ := h
  exact ⟨d, runD_rt hl e, q⟩
/-! loops -/
theorem for_hol {i : Nat} {b : SS → Option Out} {ds : List D} {s : SS} (I : Nat → SS → Prop) (h0 : I 0 s) (hs : ∀ n (h : n < ds.length) δ, I n δ → hol (b (δ.set i (some (.sh ds[n])))) fun o => match o with | .nx δ' => I (n + 1) δ' | .ct δ' => I (n + 1) δ' | .bk δ' => QO (.nx δ') | .rt d => QO (.rt d) | .rb d δ' => QO (.rb d δ') | .ex c δ' => QO (.ex c δ')) (he : ∀ δ, I ds.length δ → QO (.nx δ)) : hol (forD i b ds s) QO := by
  induction ds generalizing s I with
  | nil => exact ⟨_, rfl, he _ h0⟩
  | cons x r ih =>
    obtain ⟨o, e, q⟩ := hs 0 (by simp) s h0
    have e : b (s.set i (some (.sh x))) = some o := e
    have step : ∀ s1, I 1 s1 → hol (forD i b r s1) QO := fun s1 h1 => ih (fun n => I (n + 1)) h1 (fun n hn δ hI => by
      have := hs (n + 1) (by simpa using hn) δ hI
      simpa using this) fun δ hI => he δ (by simpa using hI)
    unfold forD
    rw [e]
    cases o with
    | nx s1 => exact step s1 q
    | ct s1 => exact step s1 q
    | bk s1 => exact ⟨_, rfl, q⟩
    | rt d => exact ⟨_, rfl, q⟩
    | rb d s1 => exact ⟨_, rfl, q⟩
    | ex c s1 => exact ⟨_, rfl, q⟩
theorem for_rng {i : Nat} {b : SS → Option Out} {lo : Int} {m : Nat} {s : SS} (I : Nat → SS → Prop) (h0 : I 0 s) (hs : ∀ n, n < m → ∀ δ, I n δ → hol (b (δ.set i (some (.sh (.int (lo + (n : Int))))))) fun o => match o with | .nx δ' => I (n + 1) δ' | .ct δ' => I (n + 1) δ' | .bk δ' => QO (.nx δ') | .rt d => QO (.rt d) | .rb d δ' => QO (.rb d δ') | .ex c δ' => QO (.ex c δ')) (he : ∀ δ, I m δ → QO (.nx δ)) : hol (forD i b (rngL lo m) s) QO := by
  refine for_hol I h0 (fun n hn δ hI => ?_) fun δ hI => he δ (by simpa [rngL] using hI)
  have hn' : n < m := by simpa [rngL] using hn
  have := hs n hn' δ hI
  simpa [rngL] using this
theorem for_map {α : Type} {enc : α → D} {i : Nat} {b : SS → Option Out} {xs : List α} {s : SS} (I : List α → SS → Prop) (h0 : I [] s) (hs : ∀ pre x post, xs = pre ++ x :: post → ∀ δ, I pre δ → hol (b (δ.set i (some (.sh (enc x))))) fun o => match o with | .nx δ' => I (pre ++ [x]) δ' | .ct δ' => I (pre ++ [x]) δ' | .bk δ' => QO (.nx δ') | .rt d => QO (.rt d) | .rb d δ' => QO (.rb d δ') | .ex c δ' => QO (.ex c δ')) (he : ∀ δ, I xs δ → QO (.nx δ)) : hol (forD i b (xs.map enc) s) QO := by
  refine for_hol (fun n δ => I (xs.take n) δ) (by simpa using h0) (fun n hn δ hI => ?_) fun δ hI => he δ (by simpa using hI)
  have hn' : n < xs.length := by simpa using hn
  have e : xs = xs.take n ++ xs[n] :: xs.drop (n + 1) := by
    rw [← List.drop_eq_getElem_cons hn', List.take_append_drop]
  have := hs (xs.take n) xs[n] _ e δ hI
  rw [← List.take_succ_eq_append_getElem hn'] at this
  rw [List.getElem_map]
  exact this
end
end L2

/-! ### M4: mirrors reckoned out, term by term -/
namespace L2
open PySem
def o2 (F : D → D → Option D) : Option D → Option D → Option D
  | some x, some y => F x y
  | _, _ => none
def andO : Option D → Option D → Option D
  | some (.bl true), y => y
  | some (.bl false), _ => some (.bl false)
  | _, _ => none
def orO : Option D → Option D → Option D
  | some (.bl true), _ => some (.bl true)
  | some (.bl false), y => y
  | _, _ => none
def andT : Option Bool → Option Bool → Option Bool
  | some true, y => y
  | some false, _ => some false
  | _, _ => none
def orT : Option Bool → Option Bool → Option Bool
  | some true, _ => some true
  | some false, y => y
  | _, _ => none
def iteO {α : Type} : Option Bool → Option α → Option α → Option α
  | some true, x, _ => x
  | some false, _, y => y
  | _, _, _ => none
def consA : Option D → Option (List D) → Option (List D)
  | some x, some xs => some (x :: xs)
  | _, _ => none
def immO : Option D → Option D
  | some d => if d.imm = true then some d else none
  | none => none
def flatO : Option (List D) → Option (List D)
  | some ds => if imms ds = true then some ds else none
  | none => none
def bindO (x : Option Out) (b : SS → Option Out) : Option Out := match x with
  | some (.nx s) => b s
  | o => o
def rng1 : Option D → Option (List D)
  | some (.int j) => if -(2 ^ 62) ≤ j ∧ j < 2 ^ 62 then some (rngL 0 j.toNat) else none
  | _ => none
def rng2 : Option D → Option D → Option (List D)
  | some (.int i), some (.int j) => if -(2 ^ 62) ≤ i ∧ i < 2 ^ 62 ∧ -(2 ^ 62) ≤ j ∧ j < 2 ^ 62 then some (rngL i (j - i).toNat) else none
  | _, _ => none
def cut3 (x : Option D) (lo hi : Option (Option Int)) : Option (List D) := match x, lo, hi with
  | some (.lst ds), some l, some h => some (cutL ds l h)
  | some (.scr ns), some l, some h => some (cutL (ns.map .int) l h)
  | _, _, _ => none
def partO : Option D → Option (Option Int)
  | some (.int i) => some (some i)
  | _ => none
def setO (mk : D → SD) (i : Nat) (x : Option D) (s : SS) : Option Out := match x with
  | some d => some (.nx (s.set i (some (mk d))))
  | none => none
def rtO : Option D → Option Out
  | some d => some (.rt d)
  | none => none
def forX (i : Nat) (ds : Option (List D)) (b : SS → Option Out) (s : SS) : Option Out := match ds with
  | some ds => forD i b ds s
  | none => none
def putO (i : Nat) (x : Option D) (s : SS) : Option Out := match x with
  | some d => some (.nx ((dropBs i s).set i (some (.ow d))))
  | none => none
def compF (fc : DS → Option Bool) (fe : DE) (δ : DS) : D → Option (Option D) := fun x => (fc (δ ++ [some x])).bind fun k => if k = true then (fe (δ ++ [some x])).map some else some none
def compX (xs : Option (List D)) (h : D → Option (Option D)) : Option (List D) := match xs with
  | some xs => if xs.length ≤ sizeLine then compL h xs else none
  | none => none
section
variable {f g h : DE} {δ : DS} {s : SS} {F : D → D → Option D} {c e : DS → Option Bool} {a b : SS → Option Out} {i j : Nat}
theorem ev_var0 {x : Option D} {r : DS} : dVar 0 (x :: r) = x := ho_var0
theorem ev_varS {x : Option D} {r : DS} : dVar (i + 1) (x :: r) = dVar i r := (rfl)
theorem ev_C {d : D} : dC d δ = some d := (rfl)
theorem ev_d2 : d2 F f g δ = o2 F (f δ) (g δ) := by
  unfold d2 o2
  cases f δ <;> cases g δ <;> rfl
theorem ev_d1 {G : D → Option D} : d1 G f δ = (f δ).bind G := (rfl)
theorem ev_test : dTest f δ = (f δ).bind asB := by
  unfold dTest
  cases f δ with
  | none => rfl
  | some d => cases d <;> rfl
theorem ev_truth : dTruth f δ = (f δ).bind truthD := (rfl)
theorem ev_andT : dAndT c e δ = andT (c δ) (e δ) := by
  unfold dAndT
  rcases c δ with _ | _ | _ <;> rfl
theorem ev_orT : dOrT c e δ = orT (c δ) (e δ) := by
  unfold dOrT
  rcases c δ with _ | _ | _ <;> rfl
theorem ev_notT : dNotT c δ = (c δ).map (!·) := (rfl)
theorem ev_and : dAnd f g δ = andO (f δ) (g δ) := by
  unfold dAnd andO
  rcases f δ with _ | (_ | (_ | _) | _ | _ | _ | _ | _ | _) <;> rfl
theorem ev_or : dOr f g δ = orO (f δ) (g δ) := by
  unfold dOr orO
  rcases f δ with _ | (_ | (_ | _) | _ | _ | _ | _ | _ | _) <;> rfl
theorem ev_if : dIf c f g δ = iteO (c δ) (f δ) (g δ) := by
  unfold dIf
  rcases c δ with _ | _ | _ <;> rfl
theorem ev_args0 : dArgs [] δ = some [] := (rfl)
theorem ev_argsS {r : List DE} : dArgs (f :: r) δ = consA (f δ) (dArgs r δ) := by
  show ((f δ).bind fun x => (dArgs r δ).bind fun xs => some (x :: xs)) = _
  cases f δ <;> cases dArgs r δ <;> rfl
theorem ev_call {M : List D → Option D} {fl : List DE} : dCall M fl δ = (dArgs fl δ).bind M := (rfl)
theorem ev_callL {M : List D → Option (List D)} {fl : List DE} : dCallL M fl δ = (dArgs fl δ).bind M := (rfl)
theorem ev_mkL {f : DS → Option (List D)} : mkL f δ = (f δ).map .lst := (rfl)
theorem ev_mkT {f : DS → Option (List D)} : mkT f δ = (f δ).map .tup := (rfl)
theorem ev_mkFlat {f : DS → Option (List D)} : mkFlat f δ = (flatO (f δ)).map .lst := by
  unfold mkFlat flatO
  cases f δ with
  | none => rfl
  | some ds =>
    show (if imms ds = true then _ else _) = Option.map _ (if imms ds = true then _ else _)
    split <;> rfl
theorem ev_mkImm : mkImm f δ = immO (f δ) := by
  unfold mkImm immO
  cases f δ <;> rfl
theorem ev_is {T : String} : dIs T f δ = (f δ).map fun d => .bl (isF T d) := (rfl)
theorem ev_seq : dSeq f δ = (f δ).bind seqD := (rfl)
theorem ev_rng1 : dRng1 f δ = rng1 (f δ) := (rfl)
theorem ev_rng2 : dRng2 f g δ = rng2 (f δ) (g δ) := (rfl)
theorem ev_comp {fi : DS → Option (List D)} : dComp fi c f δ = compX (fi δ) (compF c f δ) := by
  unfold dComp compX
  cases fi δ <;> rfl
theorem ev_part : dPart f δ = partO (f δ) := (rfl)
theorem ev_nopart : dNoPart δ = some none := (rfl)
theorem ev_cut {fl fh : DS → Option (Option Int)} : dCut f fl fh δ = cut3 (f δ) (fl δ) (fh δ) := by
  unfold dCut cut3
  rcases f δ with _ | (_ | _ | _ | _ | _ | _ | _ | _) <;> first | rfl | (cases fl δ <;> cases fh δ <;> rfl)
theorem ev_seqO : seqO a b s = bindO (a s) b := by
  unfold seqO bindO
  rcases a s with _ | (_ | _ | _ | _) <;> rfl
theorem ev_skip : skipO s = some (.nx s) := (rfl)
theorem ev_bk : bkO s = some (.bk s) := (rfl)
theorem ev_ct : ctO s = some (.ct s) := (rfl)
theorem ev_asgS : asgS i f s = setO .sh i (f (shV s)) s := by
  unfold asgS setO
  cases f (shV s) <;> rfl
theorem ev_asgI : asgI i f s = setO .sh i (immO (f (allV s))) s := by
  unfold asgI setO immO
  cases f (allV s) with
  | none => rfl
  | some d =>
    show (if d.imm = true then _ else _) = (match (if d.imm = true then some d else none) with | some d => some (Out.nx (s.set i (some (SD.sh d)))) | none => none)
    split <;> rfl
theorem ev_asgN : asgN i f s = setO .ow i (f (allV s)) s := by
  unfold asgN setO
  cases f (allV s) <;> rfl
theorem ev_retI : retI f s = rtO (immO (f (allV s))) := by
  unfold retI rtO immO
  cases f (allV s) with
  | none => rfl
  | some d =>
    show (if d.imm = true then _ else _) = (match (if d.imm = true then some d else none) with | some d => some (Out.rt d) | none => none)
    split <;> rfl
theorem ev_retN : retN f s = rtO (f (allV s)) := by
  unfold retN rtO
  cases f (allV s) <;> rfl
theorem ev_retS : retS f s = rtO (f (shV s)) := by
  unfold retS rtO
  cases f (shV s) <;> rfl
theorem ev_retO : retO i s = rtO (owA i s) := by
  unfold retO rtO owA
  rcases s[i]? with _ | _ | ⟨x | x | ⟨r, x⟩⟩ <;> rfl
theorem ev_ifO : ifO c a b s = iteO (c (allV s)) (a s) (b s) := by
  unfold ifO
  rcases c (allV s) with _ | _ | _ <;> rfl
theorem ev_forO {fi : DS → Option (List D)} : forO i fi b s = forX i (fi (shV s)) b s := by
  unfold forO forX
  cases fi (shV s) <;> rfl
theorem ev_frz : frzO i b s = b (frzS i s) := (rfl)
/-! how they go on when the parts are there -/
theorem eo_2 {x y : D} : o2 F (some x) (some y) = F x y := (rfl)
theorem eo_and {x y : Bool} : andO (some (.bl x)) (some (.bl y)) = some (.bl (x && y)) := by cases x <;> rfl
theorem eo_andt {y : Option D} : andO (some (.bl true)) y = y := (rfl)
theorem eo_andf {y : Option D} : andO (some (.bl false)) y = some (.bl false) := (rfl)
theorem eo_or {x y : Bool} : orO (some (.bl x)) (some (.bl y)) = some (.bl (x || y)) := by cases x <;> rfl
theorem eo_ort {y : Option D} : orO (some (.bl true)) y = some (.bl true) := (rfl)
theorem eo_orf {y : Option D} : orO (some (.bl false)) y = y := (rfl)
theorem eo_andT {x y : Bool} : andT (some x) (some y) = some (x && y) := by cases x <;> rfl
theorem eo_andTt {y : Option Bool} : andT (some true) y = y := (rfl)
theorem eo_andTf {y : Option Bool} : andT (some false) y = some false := (rfl)
theorem eo_orT {x y : Bool} : orT (some x) (some y) = some (x || y) := by cases x <;> rfl
theorem eo_orTt {y : Option Bool} : orT (some true) y = some true := (rfl)
theorem eo_orTf {y : Option Bool} : orT (some false) y = y := (rfl)
theorem eo_itet {α : Type} {x y : Option α} : iteO (some true) x y = x := (rfl)
theorem eo_itef {α : Type} {x y : Option α} : iteO (some false) x y = y := (rfl)
theorem eo_cons {x : D} {xs : List D} : consA (some x) (some xs) = some (x :: xs) := (rfl)
theorem eo_nx : bindO (some (.nx s)) b = b s := (rfl)
theorem eo_rt {d : D} : bindO (some (.rt d)) b = some (.rt d) := (rfl)
theorem eo_bk : bindO (some (.bk s)) b = some (.bk s) := (rfl)
theorem eo_ct : bindO (some (.ct s)) b = some (.ct s) := (rfl)
theorem eo_set {mk : D → SD} {d : D} : setO mk i (some d) s = some (.nx (s.set i (some (mk d)))) := (rfl)
theorem eo_rtO {d : D} : rtO (some d) = some (.rt d) := (rfl)
theorem eo_for {ds : List D} : forX i (some ds) b s = forD i b ds s := (rfl)
theorem eo_immI {n : Int} : immO (some (.int n)) = some (.int n) := (rfl)
theorem eo_immB {n : Bool} : immO (some (.bl n)) = some (.bl n) := (rfl)
theorem eo_immN : immO (some .non) = some .non := (rfl)
theorem eo_immS {x : Str} : immO (some (.str x)) = some (.str x) := (rfl)
theorem eo_immR {ns : List Int} : immO (some (.scr ns)) = some (.scr ns) := (rfl)
theorem eo_imm {d : D} (h : d.imm = true) : immO (some d) = some d := if_pos h
theorem eo_flat {ds : List D} (h : imms ds = true) : flatO (some ds) = some ds := if_pos h
theorem eo_part {n : Int} : partO (some (.int n)) = some (some n) := (rfl)
theorem eo_cutL {ds : List D} {l h : Option Int} : cut3 (some (.lst ds)) (some l) (some h) = some (cutL ds l h) := (rfl)
theorem eo_cutR {ns : List Int} {l h : Option Int} : cut3 (some (.scr ns)) (some l) (some h) = some (cutL (ns.map .int) l h) := (rfl)
theorem eo_rng1 {n : Int} (h : -(2 ^ 62) ≤ n ∧ n < 2 ^ 62) : rng1 (some (.int n)) = some (rngL 0 n.toNat) := if_pos h
theorem eo_comp {xs : List D} {k : D → Option (Option D)} (h : xs.length ≤ 1000000) : compX (some xs) k = compL k xs := if_pos (small_line h)
/-! values -/
section
variable {m n : Int} {p q : Bool} {ds es : List D} {x y : Str} {ns : List Int}
theorem ea_add : addI (.int m) (.int n) = some (.int (m + n)) := (rfl)
theorem ea_sub : subI (.int m) (.int n) = some (.int (m - n)) := (rfl)
theorem ea_div (h : CDiv m n) : divI (.int m) (.int n) = some (.int (m / n)) := if_pos h
theorem ea_mod (h : 0 < n) : modI (.int m) (.int n) = some (.int (m % n)) := if_pos h
theorem ea_pow (h : CPow m n) : powI (.int m) (.int n) = some (.int (m ^ n.toNat)) := if_pos h
theorem ea_lt : ltI (.int m) (.int n) = some (.bl (decide (m < n))) := (rfl)
theorem ea_le : leI (.int m) (.int n) = some (.bl (decide (m ≤ n))) := (rfl)
theorem ea_gt : gtI (.int m) (.int n) = some (.bl (decide (n < m))) := (rfl)
theorem ea_ge : geI (.int m) (.int n) = some (.bl (decide (n ≤ m))) := (rfl)
theorem ea_eqI : eqD (.int m) (.int n) = some (.bl (decide (m = n))) := (rfl)
theorem ea_neI : neD (.int m) (.int n) = some (.bl (!decide (m = n))) := (rfl)
theorem ea_eqB : eqD (.bl p) (.bl q) = some (.bl (p == q)) := (rfl)
theorem ea_neB : neD (.bl p) (.bl q) = some (.bl (!(p == q))) := (rfl)
theorem ea_neg : uNeg (.int m) = some (.int (-m)) := (rfl)
theorem ea_not : uNot (.bl p) = some (.bl (!p)) := (rfl)
theorem ea_truB : truthD (.bl p) = some p := (rfl)
theorem ea_truI : truthD (.int m) = some (m != 0) := (rfl)
theorem ea_truL : truthD (.lst ds) = some (!ds.isEmpty) := (rfl)
theorem ea_truN : truthD .non = some false := (rfl)
theorem ea_seqL : seqD (.lst ds) = some ds := (rfl)
theorem ea_seqT : seqD (.tup ds) = some ds := (rfl)
theorem ea_seqR : seqD (.scr ns) = some (ns.map .int) := (rfl)
theorem ea_lenL : lenF [.lst ds] = some (.int (ds.length : Int)) := (rfl)
theorem ea_lenT : lenF [.tup ds] = some (.int (ds.length : Int)) := (rfl)
theorem ea_lenR : lenF [.scr ns] = some (.int (ns.length : Int)) := (rfl)
theorem ea_listL : listF [.lst ds] = some ds := (rfl)
theorem ea_listT : listF [.tup ds] = some ds := (rfl)
theorem ea_listR : listF [.scr ns] = some (ns.map .int) := (rfl)
theorem ea_tupL : tupF [.lst ds] = some (.tup ds) := (rfl)
theorem ea_tupT : tupF [.tup ds] = some (.tup ds) := (rfl)
theorem ea_ixL : ixD (.lst ds) (.int m) = atI ds m := (rfl)
theorem ea_ixT : ixD (.tup ds) (.int m) = atI ds m := (rfl)
theorem ea_ixR : ixD (.scr ns) (.int m) = (atI ns m).map .int := (rfl)
theorem ea_isBB : isF "bool" (.bl p) = true := (rfl)
theorem ea_isBI : isF "bool" (.int m) = false := (rfl)
theorem ea_isII : isF "int" (.int m) = true := (rfl)
theorem ea_isIB : isF "int" (.bl p) = true := (rfl)
theorem ea_isLL : isF "list" (.lst ds) = true := (rfl)
theorem ea_isLT : isF "list" (.tup ds) = false := (rfl)
theorem ea_isTT : isF "tuple" (.tup ds) = true := (rfl)
theorem ea_isLN : isF "list" .non = false := (rfl)
theorem ea_asB : asB (.bl p) = some p := (rfl)
theorem ea_asI : asI (.int m) = some m := (rfl)
theorem ea_asL : asL (.lst ds) = some ds := (rfl)
end
theorem eb_bs {α β : Type} {a : α} {k : α → Option β} : (some a).bind k = k a := (rfl)
theorem eb_bn {α β : Type} {k : α → Option β} : (none : Option α).bind k = none := (rfl)
theorem eb_ms {α β : Type} {a : α} {k : α → β} : (some a).map k = some (k a) := (rfl)
theorem eb_mn {α β : Type} {k : α → β} : (none : Option α).map k = none := (rfl)
theorem eb_s0 {α : Type} {x y : α} {r : List α} : (x :: r).set 0 y = y :: r := (rfl)
theorem eb_sS {α : Type} {n : Nat} {x y : α} {r : List α} : (x :: r).set (n + 1) y = x :: r.set n y := (rfl)
theorem eb_mc {α β : Type} {x : α} {r : List α} {k : α → β} : (x :: r).map k = k x :: r.map k := (rfl)
theorem eb_mnil {α β : Type} {k : α → β} : ([] : List α).map k = [] := (rfl)
theorem eb_rS {α : Type} {n : Nat} {x : α} : List.replicate (n + 1) x = x :: List.replicate n x := (rfl)
theorem eb_r0 {α : Type} {x : α} : List.replicate 0 x = [] := (rfl)
theorem eb_ca {α : Type} {x : α} {r t : List α} : (x :: r) ++ t = x :: (r ++ t) := (rfl)
theorem eb_na {α : Type} {t : List α} : [] ++ t = t := (rfl)
/-! states -/
theorem es_all0 : allV [] = [] := (rfl)
theorem es_allS {x : Option SD} {r : SS} : allV (x :: r) = x.map SD.val :: allV r := (rfl)
theorem es_sh0 : shV [] = [] := (rfl)
theorem es_shS {x : Option SD} {r : SS} : shV (x :: r) = shO x :: shV r := (rfl)
theorem es_val1 {d : D} : Option.map SD.val (some (.sh d)) = some d := (rfl)
theorem es_val2 {d : D} : Option.map SD.val (some (.ow d)) = some d := (rfl)
theorem es_val3 : Option.map SD.val none = none := (rfl)
theorem es_shO {d : D} : shO (some (.sh d)) = some d := (rfl)
theorem es_drop0 : dropBs i [] = [] := (rfl)
theorem es_dropS {x : Option SD} {r : SS} : dropBs i (x :: r) = dropB i x :: dropBs i r := (rfl)
theorem es_dropSh {d : D} : dropB i (some (.sh d)) = some (.sh d) := (rfl)
theorem es_dropOw {d : D} : dropB i (some (.ow d)) = some (.ow d) := (rfl)
theorem es_dropN : dropB i none = none := (rfl)
theorem es_ow0 {d : D} {r : SS} : owA 0 (some (.ow d) :: r) = some d := (rfl)
theorem es_owS {x : Option SD} {r : SS} : owA (i + 1) (x :: r) = owA i r := (rfl)
end
end L2

/-! ### M5: changes of owned lists; comprehensions -/
namespace L2
open PySem
def immsO : Option (List D) → Option (List D) := flatO
def st0V (o k v : Option D) : Option D := match o, k, v with
  | some (.lst ds), some (.int k), some d => (ixN ds.length k).map fun j => .lst (ds.set j d)
  | _, _, _ => none
def st1V (o k j v : Option D) : Option D := match o, k, j, v with
  | some (.lst ds), some (.int k), some (.int j), some d => (ixN ds.length k).bind fun k' => (match ds[k']? with
    | some (.lst es) => if imms es = true then (ixN es.length j).map fun j' => .lst (ds.set k' (.lst (es.set j' d))) else none
    | _ => none)
  | _, _, _, _ => none
def m0V (M : List D → List D → Option (List D)) (o : Option D) (args : Option (List D)) : Option D := match o, args with
  | some (.lst ds), some args => (M ds args).map .lst
  | _, _ => none
def m1V (M : List D → List D → Option (List D)) (o k : Option D) (args : Option (List D)) : Option D := match o, k, args with
  | some (.lst ds), some (.int k), some args => (ixN ds.length k).bind fun j => (match ds[j]? with
    | some (.lst es) => if imms es = true then (flatO (M es args)).map fun es' => .lst (ds.set j (.lst es')) else none
    | _ => none)
  | _, _, _ => none
def mMV (M : List D → Option D) (o : Option D) (args : Option (List D)) : Option D := match o, args with
  | some d0, some args => M (d0 :: args)
  | _, _ => none
section
variable {f g fk fj fv : DE} {s : SS} {i : Nat} {M : List D → List D → Option (List D)} {fl : List DE}
theorem eo_put {d : D} : putO i (some d) s = some (.nx ((dropBs i s).set i (some (.ow d)))) := (rfl)
/-- what is an int, what is a list that is owned -/
def kI : D → Option Int
  | .int k => some k
  | _ => none
def kL : D → Option (List D)
  | .lst ds => some ds
  | _ => none
def kW : Option (Option SD) → Option D
  | some (some (.ow d)) => some d
  | _ => none
theorem owA_kW : owA i s = kW s[i]? := by
  unfold owA kW
  generalize s[i]? = x
  rcases x with _ | _ | ⟨x | x | ⟨r, x⟩⟩ <;> rfl
theorem mt2 {β : Type} {k : D} {x : Option (Option SD)} {F : Int → List D → Option β} : (match k, x with | .int k, some (some (.ow (.lst ds))) => F k ds | _, _ => none) = (kI k).bind fun k => ((kW x).bind kL).bind fun ds => F k ds := by
  cases k with
  | int k => rcases x with _ | _ | ⟨x | x | ⟨r, x⟩⟩ <;> first | rfl | (cases x <;> rfl)
  | _ => rfl
theorem mt3 {β : Type} {k j : D} {x : Option (Option SD)} {F : Int → Int → List D → Option β} : (match k, j, x with | .int k, .int j, some (some (.ow (.lst ds))) => F k j ds | _, _, _ => none) = (kI k).bind fun k => (kI j).bind fun j => ((kW x).bind kL).bind fun ds => F k j ds := by
  cases k with
  | int k =>
    cases j with
    | int j => rcases x with _ | _ | ⟨x | x | ⟨r, x⟩⟩ <;> first | rfl | (cases x <;> rfl)
    | _ => rfl
  | _ => rfl
theorem st0V_k {o k v : Option D} : st0V o k v = (o.bind kL).bind fun ds => (k.bind kI).bind fun k => v.bind fun d => (ixN ds.length k).map fun j => .lst (ds.set j d) := by
  rcases o with _ | o
  · rfl
  · cases o with
    | lst ds =>
      rcases k with _ | k
      · rfl
      · cases k with
        | int k => cases v <;> rfl
        | _ => rfl
    | _ => rfl
theorem st1V_k {o k j v : Option D} : st1V o k j v = (o.bind kL).bind fun ds => (k.bind kI).bind fun k => (j.bind kI).bind fun j => v.bind fun d => (ixN ds.length k).bind fun k' => (match ds[k']? with
    | some (.lst es) => if imms es = true then (ixN es.length j).map fun j' => .lst (ds.set k' (.lst (es.set j' d))) else none
    | _ => none) := by
  rcases o with _ | o
  · rfl
  · cases o with
    | lst ds =>
      rcases k with _ | k
      · rfl
      · cases k with
        | int k =>
          rcases j with _ | j
          · rfl
          · cases j with
            | int j => cases v <;> rfl
            | _ => rfl
        | _ => rfl
    | _ => rfl
theorem putO_b {α : Type} {x : Option α} {F : α → Option D} : putO i (x.bind F) s = x.bind fun a => putO i (F a) s := by cases x <;> rfl
theorem bind_no {α β : Type} {x : Option α} : (x.bind fun _ => (none : Option β)) = none := by cases x <;> rfl
theorem ev_st0 : st0 i fk fv s = putO i (st0V (owA i s) (fk (allV s)) (immO (fv (allV s)))) s := by
  have e : st0 i fk fv s = (fv (allV s)).bind fun d => if d.imm = true then (fk (allV s)).bind fun dk => (kI dk).bind fun k => ((kW s[i]?).bind kL).bind fun ds => (ixN ds.length k).map fun j => .nx ((dropBs i s).set i (some (.ow (.lst (ds.set j d))))) else none := by
    refine congrArg (Option.bind (fv (allV s))) (funext fun d => ?_)
    refine congrArg (fun z => if d.imm = true then z else none) ?_
    refine congrArg (Option.bind (fk (allV s))) (funext fun dk => ?_)
    exact mt2 (F := fun k ds => (ixN ds.length k).map fun j => Out.nx ((dropBs i s).set i (some (.ow (.lst (ds.set j d))))))
  rw [e, st0V_k, owA_kW]
  simp only [putO_b]
  generalize (kW s[i]?).bind kL = x
  rcases fv (allV s) with _ | d
  · show none = x.bind fun ds => ((fk (allV s)).bind kI).bind fun k => (none : Option Out)
    simp only [bind_no]
  · show (if d.imm = true then (fk (allV s)).bind fun dk => _ else none) = x.bind fun ds => ((fk (allV s)).bind kI).bind fun k => (if d.imm = true then some d else none).bind fun d => _
    split
    · rcases fk (allV s) with _ | k
      · simp only [Option.bind_none, bind_no]
      · simp only [Option.bind_some]
        cases kI k with
        | none => simp only [Option.bind_none, bind_no]
        | some k =>
          simp only [Option.bind_some]
          cases x with
          | none => rfl
          | some ds =>
            simp only [Option.bind_some]
            cases ixN ds.length k <;> rfl
    · simp only [Option.bind_none, bind_no]
theorem m_st1 {k j : Int} {d : D} {ds : List D} : ((ixN ds.length k).bind fun k' => (match ds[k']? with
      | some (.lst es) => if imms es = true then (ixN es.length j).map fun j' => Out.nx ((dropBs i s).set i (some (.ow (.lst (ds.set k' (.lst (es.set j' d))))))) else none
      | _ => none)) = putO i (st1V (some (.lst ds)) (some (.int k)) (some (.int j)) (some d)) s := by
  show _ = putO i ((ixN ds.length k).bind _) s
  cases ixN ds.length k with
  | none => rfl
  | some k' =>
    rw [Option.bind_some, Option.bind_some]
    cases ds[k']? with
    | none => rfl
    | some y =>
      cases y with
      | lst es =>
        dsimp only
        split
        · cases ixN es.length j <;> rfl
        · rfl
      | _ => rfl
theorem ev_st1 : st1 i fk fj fv s = putO i (st1V (owA i s) (fk (allV s)) (fj (allV s)) (immO (fv (allV s)))) s := by
  have e : st1 i fk fj fv s = (fv (allV s)).bind fun d => if d.imm = true then (fk (allV s)).bind fun dk => (fj (allV s)).bind fun dj => (kI dk).bind fun k => (kI dj).bind fun j => ((kW s[i]?).bind kL).bind fun ds => (ixN ds.length k).bind fun k' => (match ds[k']? with
      | some (.lst es) => if imms es = true then (ixN es.length j).map fun j' => .nx ((dropBs i s).set i (some (.ow (.lst (ds.set k' (.lst (es.set j' d))))))) else none
      | _ => none) else none := by
    refine congrArg (Option.bind (fv (allV s))) (funext fun d => ?_)
    refine congrArg (fun z => if d.imm = true then z else none) ?_
    refine congrArg (Option.bind (fk (allV s))) (funext fun dk => ?_)
    refine congrArg (Option.bind (fj (allV s))) (funext fun dj => ?_)
    exact mt3 (F := fun k j ds => (ixN ds.length k).bind fun k' => (match ds[k']? with
      | some (.lst es) => if imms es = true then (ixN es.length j).map fun j' => Out.nx ((dropBs i s).set i (some (.ow (.lst (ds.set k' (.lst (es.set j' d))))))) else none
      | _ => none))
  rw [e, st1V_k, owA_kW]
  simp only [putO_b]
  generalize (kW s[i]?).bind kL = x
  rcases fv (allV s) with _ | d
  · show none = x.bind fun ds => ((fk (allV s)).bind kI).bind fun k => ((fj (allV s)).bind kI).bind fun j => (none : Option Out)
    simp only [bind_no]
  · show (if d.imm = true then (fk (allV s)).bind fun dk => _ else none) = x.bind fun ds => ((fk (allV s)).bind kI).bind fun k => ((fj (allV s)).bind kI).bind fun j => (if d.imm = true then some d else none).bind fun d => _
    split
    · rcases fk (allV s) with _ | k
      · simp only [Option.bind_none, bind_no]
      · simp only [Option.bind_some]
        rcases fj (allV s) with _ | j
        · simp only [Option.bind_none, bind_no]
        · simp only [Option.bind_some]
          cases kI k with
          | none => simp only [Option.bind_none, bind_no]
          | some k =>
            cases kI j with
            | none => simp only [Option.bind_none, Option.bind_some, bind_no]
            | some j =>
              simp only [Option.bind_some]
              cases x with
              | none => rfl
              | some ds =>
                have := m_st1 (i := i) (s := s) (k := k) (j := j) (d := d) (ds := ds)
                rw [st1V_k] at this
                simp only [Option.bind_some, putO_b, kL, kI] at this
                simp only [Option.bind_some]
                exact this
    · simp only [Option.bind_none, bind_no]
theorem ev_m0 : m0 i M fl s = putO i (m0V M (owA i s) (immsO (dArgs fl (allV s)))) s := by
  unfold m0 owA
  rcases dArgs fl (allV s) with _ | args
  · rcases s[i]? with _ | _ | ⟨x | x | ⟨r, x⟩⟩ <;> (first | rfl | (cases x <;> rfl))
  · show (if imms args = true then _ else _) = putO i (m0V M _ (if imms args = true then some args else none)) s
    split
    · rcases s[i]? with _ | _ | ⟨x | x | ⟨r, x⟩⟩ <;> (first | rfl | (cases x <;> first | rfl | (rename_i ds; show Option.map _ (M ds args) = putO i (Option.map _ (M ds args)) s; cases M ds args <;> rfl)))
    · rcases s[i]? with _ | _ | ⟨x | x | ⟨r, x⟩⟩ <;> (first | rfl | (cases x <;> rfl))
theorem m_m1 {k : Int} {ds args : List D} : ((ixN ds.length k).bind fun j => (match ds[j]? with
      | some (.lst es) => if imms es = true then (M es args).bind fun es' => if imms es' = true then some (Out.nx ((dropBs i s).set i (some (.ow (.lst (ds.set j (.lst es'))))))) else none else none
      | _ => none)) = putO i (m1V M (some (.lst ds)) (some (.int k)) (some args)) s := by
  show _ = putO i ((ixN ds.length k).bind _) s
  cases ixN ds.length k with
  | none => rfl
  | some k' =>
    rw [Option.bind_some, Option.bind_some]
    cases ds[k']? with
    | none => rfl
    | some y =>
      cases y with
      | lst es =>
        dsimp only
        split
        · cases M es args with
          | none => rfl
          | some es' =>
            show (if imms es' = true then _ else _) = putO i (Option.map _ (if imms es' = true then _ else _)) s
            split <;> rfl
        · rfl
      | _ => rfl
theorem ev_m1 : m1 i fk M fl s = putO i (m1V M (owA i s) (fk (allV s)) (immsO (dArgs fl (allV s)))) s := by
  unfold m1 owA
  rcases dArgs fl (allV s) with _ | args
  · rcases fk (allV s) with _ | (_ | _ | _ | _ | _ | _ | _ | _) <;> rcases s[i]? with _ | _ | ⟨x | x | ⟨r, x⟩⟩ <;> (first | rfl | (cases x <;> rfl))
  · show _ = putO i (m1V M _ _ (if imms args = true then some args else none)) s
    by_cases h : imms args = true
    · rw [if_pos h]
      rcases fk (allV s) with _ | (_ | _ | k | _ | _ | _ | _ | _) <;> rcases s[i]? with _ | _ | ⟨x | x | ⟨r, x⟩⟩ <;> (first | rfl | (cases x <;> first | rfl | exact (if_pos h).trans m_m1 | exact if_pos h) | exact if_pos h)
    · rw [if_neg h]
      rcases fk (allV s) with _ | (_ | _ | k | _ | _ | _ | _ | _) <;> rcases s[i]? with _ | _ | ⟨x | x | ⟨r, x⟩⟩ <;> (first | rfl | (cases x <;> first | rfl | exact if_neg h) | exact if_neg h)
theorem ev_asgM {M : List D → Option D} : asgM i M fl s = putO i (mMV M (owA i s) (immsO (dArgs fl (allV s)))) s := by
  unfold asgM owA
  rcases dArgs fl (allV s) with _ | args
  · rcases s[i]? with _ | _ | ⟨x | x | ⟨r, x⟩⟩ <;> rfl
  · show (if imms args = true then _ else _) = putO i (mMV M _ (if imms args = true then some args else none)) s
    split
    · rcases s[i]? with _ | _ | ⟨x | x | ⟨r, x⟩⟩ <;> first | rfl | (show Option.map _ (M (x :: args)) = putO i (M (x :: args)) s; cases M (x :: args) <;> rfl)
    · rcases s[i]? with _ | _ | ⟨x | x | ⟨r, x⟩⟩ <;> rfl
theorem ev_app0N : app0N i f s = putO i (m0V appF (owA i s) (consA (f (allV s)) (some []))) s := by
  unfold app0N owA
  rcases f (allV s) with _ | d
  · rcases s[i]? with _ | _ | ⟨x | x | ⟨r, x⟩⟩ <;> (first | rfl | (cases x <;> rfl))
  · rcases s[i]? with _ | _ | ⟨x | x | ⟨r, x⟩⟩ <;> (first | rfl | (cases x <;> first | rfl | (rename_i ds; show Option.map _ (appF ds [d]) = putO i (Option.map _ (appF ds [d])) s; cases appF ds [d] <;> rfl)))
theorem ev_ins0N : ins0N i f g s = putO i (m0V insF (owA i s) (consA (immO (f (allV s))) (consA (g (allV s)) (some [])))) s := by
  unfold ins0N owA
  rcases f (allV s) with _ | k
  · rcases s[i]? with _ | _ | ⟨x | x | ⟨r, x⟩⟩ <;> (first | rfl | (cases x <;> rfl))
  · show (if k.imm = true then _ else _) = putO i (m0V insF _ (consA (if k.imm = true then some k else none) _)) s
    split
    · rcases g (allV s) with _ | d
      · rcases s[i]? with _ | _ | ⟨x | x | ⟨r, x⟩⟩ <;> (first | rfl | (cases x <;> rfl))
      · rcases s[i]? with _ | _ | ⟨x | x | ⟨r, x⟩⟩ <;> (first | rfl | (cases x <;> first | rfl | (rename_i ds; show Option.map _ (insF ds [k, d]) = putO i (Option.map _ (insF ds [k, d])) s; cases insF ds [k, d] <;> rfl)))
    · rcases s[i]? with _ | _ | ⟨x | x | ⟨r, x⟩⟩ <;> (first | rfl | (cases x <;> rfl))
end
theorem es_v1 {d : D} : (SD.sh d).val = d := (rfl)
theorem es_v2 {d : D} : (SD.ow d).val = d := (rfl)
theorem ea_all {bs : List Bool} : allF [.lst (bs.map bD)] = some (.bl (bs.all fun b => b)) := by
  show (bools (bs.map bD)).map (fun bs => D.bl (bs.all fun b => b)) = _
  rw [bools_map]
  rfl
/-! tables -/
theorem pow_lit (n : Nat) (h : n ≤ 1000) : powI (.int 10) (.int (n : Int)) = some (.int (10 ^ n)) := by
  rw [ea_pow (show CPow 10 (n : Int) from ⟨by omega, by omega, by decide⟩), Int.toNat_natCast]
theorem mod_nat {x : Int} {n : Nat} (h : 0 < n) : ∃ a : Nat, x % (n : Int) = (a : Int) ∧ a < n := by
  have h1 := Int.emod_nonneg x (show (n : Int) ≠ 0 by omega)
  have h2 := Int.emod_lt_of_pos x (show (0 : Int) < n by omega)
  exact ⟨(x % (n : Int)).toNat, by omega, by omega⟩
/-! comprehensions, by what each item comes to -/
theorem comp_of {α : Type} {enc : α → D} {c : DS → Option Bool} {f : DE} {δ : DS} (p : α → Bool) (g : α → D) : ∀ {xs : List α}, (∀ x ∈ xs, c (δ ++ [some (enc x)]) = some (p x)) → (∀ x ∈ xs, p x = true → f (δ ++ [some (enc x)]) = some (g x)) → compL (compF c f δ) (xs.map enc) = some ((xs.filter p).map g)
  | [], _, _ => rfl
  | x :: r, hc, hf => by
    have ih := comp_of (xs := r) p g (fun y hy => hc y (List.mem_cons_of_mem _ hy)) fun y hy => hf y (List.mem_cons_of_mem _ hy)
    rw [List.map_cons]
    unfold compL
    rw [ih]
    unfold compF
    rw [hc x List.mem_cons_self]
    cases hp : p x with
    | true =>
      show ((if true = true then (f (δ ++ [some (enc x)])).map some else some none).bind _) = _
      rw [if_pos rfl, hf x List.mem_cons_self hp, List.filter_cons_of_pos hp]
      rfl
    | false =>
      rw [List.filter_cons_of_neg (by rw [hp]; exact Bool.false_ne_true)]
      rfl
theorem comp_ofAll {α : Type} {enc : α → D} {f : DE} {δ : DS} (g : α → D) {xs : List α} (hf : ∀ x ∈ xs, f (δ ++ [some (enc x)]) = some (g x)) : compL (compF dYes f δ) (xs.map enc) = some (xs.map g) := by
  rw [comp_of (fun _ => true) g (fun _ _ => rfl) fun x hx _ => hf x hx, List.filter_eq_self.mpr fun _ _ => rfl]
/-! ints as natural numbers; indexes -/
def nD (n : Nat) : D := .int (n : Int)
theorem rng_nat {n : Nat} : rngL 0 n = (List.range n).map nD := by
  unfold rngL nD
  refine List.map_congr_left fun k _ => ?_
  rw [Int.zero_add]
end L2

/-! ### M6: ballots -/
namespace L2
open PySem
def smallO : Option (List D) → Option (List D)
  | some ds => if ds.length ≤ sizeLine then some ds else none
  | none => none
theorem ev_small {g : DS → Option (List D)} {δ : DS} : dSmall g δ = smallO (g δ) := by
  unfold dSmall smallO
  cases g δ <;> rfl
theorem ea_intI {n : Int} : intF [.int n] = some (.int n) := (rfl)
theorem ea_intB {k : Bool} : intF [.bl k] = some (.int (if k = true then 1 else 0)) := (rfl)
theorem hol_bindO {x : Option Out} {b : SS → Option Out} {I : SS → Prop} {Q : Out → Prop} (h : hol x fun o => ∃ s, o = .nx s ∧ I s) (k : ∀ s, I s → hol (b s) Q) : hol (bindO x b) Q := by
  obtain ⟨o, rfl, s, rfl, q⟩ := h
  exact k s q
def rngI (m : Nat) : List Int := (List.range m).map fun k => ((k : Nat) : Int)
/-- votes as they are drawn -/
structure Good (m : Nat) (b : Int × List Int) : Prop where
  lo : 1 ≤ b.1
  hi : b.1 ≤ 10 ^ 30
  perm : b.2.Perm (rngI m)
theorem Good.mem {m : Nat} {b : Int × List Int} (h : Good m b) {k : Nat} (hk : k < m) : ((k : Nat) : Int) ∈ b.2 := h.perm.mem_iff.mpr (List.mem_map.mpr ⟨k, List.mem_range.mpr hk, rfl⟩)
/-! the place of a thing in an order -/
end L2

/-! ### M7: tables read by places; lists of things -/
namespace L2
open PySem
theorem Sq.len {n : Nat} {T : List (List Bool)} (h : Sq n T) {i : Nat} (hi : i < n) : (T.getD i []).length = n := by
  have h1 : i < T.length := by rw [h.1]; exact hi
  have : T.getD i [] = T[i] := by simp [List.getD, List.getElem?_eq_getElem h1]
  rw [this]
  exact h.row h1
theorem ne_self {d : D} (h : okP d = true) : neD d d = some (.bl false) := by
  unfold neD
  rw [h]
  show (if (true && true) = true then some (D.bl (!PyData.eqv (toP d) (toP d))) else none) = _
  rw [if_pos (show (true && true) = true from rfl), SeqAt.eqv_refl _ (okP_get h).1]
  rfl
/-! pairs of a number and an item -/
theorem ev_comp2 {fi : DS → Option (List D)} {c : DS → Option Bool} {f : DE} {δ : DS} : dComp2 fi c f δ = compX (fi δ) (two (compG c f δ)) := by
  unfold dComp2 compX
  cases fi δ <;> rfl
theorem ev_enum {f : DE} {δ : DS} : dEnum f δ = (f δ).bind enumS := (rfl)
end L2

/-! ### M8: dicts, turned and joined lists; the table of votes -/
namespace L2
open PySem
def chO (F G : D → D → Option D) (x y z : Option D) : Option D := match x, y with
  | some x, some y => match F x y with
    | some (.bl true) => z.bind fun z => G y z
    | some (.bl false) => some (.bl false)
    | _ => none
  | _, _ => none
theorem ev_chain {F G : D → D → Option D} {f g h : DE} {δ : DS} : dChain F G f g h δ = chO F G (f δ) (g δ) (h δ) := by
  unfold dChain chO
  cases f δ <;> cases g δ <;> rfl
theorem eo_chain {F G : D → D → Option D} {x y z : D} {b c : Bool} (h1 : F x y = some (.bl b)) (h2 : G y z = some (.bl c)) : chO F G (some x) (some y) (some z) = some (.bl (b && c)) := by
  show (match F x y with
    | some (.bl true) => (some z).bind fun z => G y z
    | some (.bl false) => some (.bl false)
    | _ => none) = _
  rw [h1]
  cases b with
  | true => exact h2
  | false => rfl
def inO : Option D → Option D → Option Bool
  | some x, some y => inK x y
  | _, _ => none
theorem ev_din' {f g : DE} {δ : DS} : dDIn f g δ = inO (f δ) (g δ) := by
  unfold dDIn inO
  cases f δ <;> cases g δ <;> rfl
theorem eo_in {x y : D} : inO (some x) (some y) = inK x y := (rfl)
theorem ev_dnin {f g : DE} {δ : DS} : dDNin f g δ = (dDIn f g δ).map (!·) := (rfl)
def dputV (o k v : Option D) : Option D := match o, k, v with
  | some (.dct ks ds), some dk, some d => (keyD dk).bind fun k => if imms ds = true ∧ ks.length < sizeLine then some (.dct (putKs ks k) (putDs ks ds k d)) else none
  | _, _, _ => none
theorem m_dput {i : Nat} {s : SS} {dk d : D} {ks : List Key} {ds : List D} : (match keyD dk, (some (some (SD.ow (.dct ks ds))) : Option (Option SD)) with
      | some k, some (some (.ow (.dct ks ds))) => if imms ds = true ∧ ks.length < sizeLine then some (Out.nx ((dropBs i s).set i (some (.ow (.dct (putKs ks k) (putDs ks ds k d)))))) else none
      | _, _ => none) = putO i (dputV (some (.dct ks ds)) (some dk) (some d)) s := by
  show _ = putO i ((keyD dk).bind _) s
  cases keyD dk with
  | none => rfl
  | some k =>
    show (if imms ds = true ∧ ks.length < sizeLine then _ else _) = putO i (if imms ds = true ∧ ks.length < sizeLine then _ else _) s
    split <;> rfl
theorem ev_dput {i : Nat} {fk fv : DE} {s : SS} : dput i fk fv s = putO i (dputV (owA i s) (fk (allV s)) (immO (fv (allV s)))) s := by
  unfold dput owA
  rcases fv (allV s) with _ | d
  · rcases fk (allV s) with _ | dk <;> rcases s[i]? with _ | _ | ⟨x | x | ⟨r, x⟩⟩ <;> (first | rfl | (cases x <;> rfl))
  · show (if d.imm = true then _ else _) = putO i (dputV _ _ (if d.imm = true then some d else none)) s
    split
    · rcases fk (allV s) with _ | dk
      · rcases s[i]? with _ | _ | ⟨x | x | ⟨r, x⟩⟩ <;> (first | rfl | (cases x <;> rfl))
      · rw [Option.bind_some]
        rcases s[i]? with _ | _ | ⟨x | x | ⟨r, x⟩⟩
        · cases keyD dk <;> rfl
        · cases keyD dk <;> rfl
        · cases keyD dk <;> rfl
        · cases x with
          | dct ks ds => exact m_dput
          | _ => (cases keyD dk <;> rfl)
        · cases keyD dk <;> rfl
    · rcases fk (allV s) with _ | dk <;> rcases s[i]? with _ | _ | ⟨x | x | ⟨r, x⟩⟩ <;> (first | rfl | (cases x <;> rfl))
def exO (x : Option D) (s : SS) : Option Out := match x with
  | some _ => some (.nx s)
  | none => none
theorem ev_exprN {f : DE} {s : SS} : exprN f s = exO (f (allV s)) s := by
  unfold exprN exO
  cases f (allV s) <;> rfl
theorem eo_ex {d : D} {s : SS} : exO (some d) s = some (.nx s) := (rfl)
def catO : Option D → Option D → Option (List D)
  | some x, some y => catLs x y
  | _, _ => none
theorem ev_cat {f g : DE} {δ : DS} : dCat f g δ = catO (f δ) (g δ) := by
  unfold dCat catO
  cases f δ <;> cases g δ <;> rfl
def revO : Option D → Option D → Option (List D)
  | some x, some y => revLs x y
  | _, _ => none
theorem ev_revL {f g : DE} {δ : DS} : dRevL f g δ = revO (f δ) (g δ) := by
  unfold dRevL revO
  cases f δ <;> cases g δ <;> rfl
theorem eo_revL {ds : List D} : revO (some (.lst ds)) (some (.int (-1))) = some ds.reverse := (rfl)
theorem ea_revT {ds : List D} : revT (.tup ds) (.int (-1)) = some (.tup ds.reverse) := (rfl)
theorem ea_max {i j : Int} : maxF [.int i, .int j] = some (.int (if j > i then j else i)) := (rfl)
theorem eo_cat {ds es : List D} (h : ds.length + es.length ≤ 1000000) : catO (some (.lst ds)) (some (.lst es)) = some (ds ++ es) := if_pos (small_line h)
theorem es_frz0 {d : D} {r : SS} : frzS 0 (some (.ow d) :: r) = some (.sh d) :: r := (rfl)
theorem es_frzS {i : Nat} {x : Option SD} {r : SS} : frzS (i + 1) (x :: r) = x :: frzS i r := by
  unfold frzS
  rw [List.getElem?_cons_succ]
  rcases r[i]? with _ | _ | ⟨y | y | ⟨q, y⟩⟩ <;> rfl
/-! a dict of things told -/
/-! the table of votes -/
theorem Good.len {m : Nat} {b : Int × List Int} (h : Good m b) : b.2.length = m := by
  have := h.perm.length_eq
  simpa [rngI] using this
end L2

/-! ### M9: clear, extend, sorted, reversed, range with a step; sums -/
namespace Prg
open PySem L2
def clrV : Option D → Option D
  | some (.lst _) => some (.lst [])
  | _ => none
def extV (o x : Option D) : Option D := match x, o with
  | some (.lst es), some (.lst ds) => if ds.length + es.length ≤ sizeLine then some (.lst (ds ++ es)) else none
  | _, _ => none
theorem ev_clr0 {i : Nat} {s : SS} : clr0 i s = putO i (clrV (owA i s)) s := by
  unfold clr0 owA
  rcases s[i]? with _ | _ | ⟨x | x | ⟨r, x⟩⟩ <;> (first | rfl | (cases x <;> rfl))
theorem ev_ext0N {i : Nat} {f : DE} {s : SS} : ext0N i f s = putO i (extV (owA i s) (f (allV s))) s := by
  unfold ext0N owA
  rcases f (allV s) with _ | d
  · rcases s[i]? with _ | _ | ⟨x | x | ⟨r, x⟩⟩ <;> (first | rfl | (cases x <;> rfl))
  · rcases s[i]? with _ | _ | ⟨x | x | ⟨r, x⟩⟩ <;> cases d <;> (first | rfl | (cases x <;> first | rfl | skip))
    rename_i es ds
    show (if ds.length + es.length ≤ sizeLine then some _ else none) = putO i (if ds.length + es.length ≤ sizeLine then some _ else none) s
    split <;> rfl
theorem eo_clr {ds : List D} : clrV (some (.lst ds)) = some (.lst []) := (rfl)
theorem ev_rng3 {f g h : DE} {δ : DS} : dRng3 f g h δ = rng3 (f δ) (g δ) (h δ) := (rfl)
theorem ev_isN {f : DE} {δ : DS} : dIsN f δ = (f δ).map isN := (rfl)
theorem ev_notN {f : DE} {δ : DS} : dNotN f δ = (f δ).map fun d => !isN d := (rfl)
theorem ea_isB {b c : Bool} : isB (.bl b) (.bl c) = some (.bl (b == c)) := (rfl)
theorem ea_notB {b c : Bool} : notB (.bl b) (.bl c) = some (.bl (b != c)) := (rfl)
theorem ea_revF {ds : List D} : revF [.lst ds] = some ds.reverse := (rfl)
/-! sums -/
def sm (f : Nat → Nat) : Nat → Nat
  | 0 => 0
  | n + 1 => sm f n + f n
end Prg

/-! ### M10: comprehensions in place, loops that leave, things in lists -/
namespace L2
open PySem
theorem cx_all {α : Type} {enc : α → D} {f : DE} {δ : DS} (g : α → D) {xs : List α} (hl : xs.length ≤ 1000) (hf : ∀ x ∈ xs, f (δ ++ [some (enc x)]) = some (g x)) : compX (some (xs.map enc)) (compF dYes f δ) = some (xs.map g) := by
  rw [eo_comp (by rw [List.length_map]; omega)]
  exact comp_ofAll g hf
theorem rng1_nat {m : Nat} (h : m ≤ 1000000) : rng1 (some (.int (m : Int))) = some (rngL 0 m) := by rw [eo_rng1 (by omega)]; rfl
theorem flat_nil : flatO (some []) = some [] := (rfl)
/-! loops that leave with one answer -/
theorem for_mapR {α : Type} {enc : α → D} {i : Nat} {b : SS → Option Out} (I : SS → Prop) (p : α → Bool) (d : D) : ∀ {xs : List α} {s : SS}, I s → (∀ x ∈ xs, ∀ δ, I δ → hol (b (δ.set i (some (.sh (enc x))))) fun o => if p x = true then (∃ δ', o = .nx δ' ∧ I δ') else o = .rt d) →
    hol (forD i b (xs.map enc) s) fun o => if xs.all p = true then (∃ δ', o = .nx δ' ∧ I δ') else o = .rt d
  | [], s, h0, _ => ⟨_, rfl, (if_pos rfl).mpr ⟨s, rfl, h0⟩⟩
  | x :: r, s, h0, hs => by
    obtain ⟨o, e, q⟩ := hs x List.mem_cons_self s h0
    rw [List.map_cons]
    unfold forD
    rw [e, List.all_cons]
    cases hp : p x with
    | true =>
      rw [hp, if_pos rfl] at q
      obtain ⟨s1, rfl, h1⟩ := q
      rw [Bool.true_and]
      exact for_mapR I p d h1 fun y hy => hs y (List.mem_cons_of_mem _ hy)
    | false =>
      rw [hp, if_neg Bool.false_ne_true] at q
      subst q
      rw [Bool.false_and]
      exact ⟨_, rfl, (if_neg Bool.false_ne_true).mpr rfl⟩
theorem for_rngR {i : Nat} {b : SS → Option Out} {m : Nat} {s : SS} (I : SS → Prop) (p : Nat → Bool) (d : D) (h0 : I s) (hs : ∀ n < m, ∀ δ, I δ → hol (b (δ.set i (some (.sh (.int (n : Int)))))) fun o => if p n = true then (∃ δ', o = .nx δ' ∧ I δ') else o = .rt d) :
    hol (forD i b (rngL 0 m) s) fun o => if (List.range m).all p = true then (∃ δ', o = .nx δ' ∧ I δ') else o = .rt d := by
  rw [rng_nat]
  exact for_mapR I p d h0 fun x hx => hs x (List.mem_range.mp hx)
theorem hol_bindR {x : Option Out} {b : SS → Option Out} {I : SS → Prop} {Q : Out → Prop} {c : Bool} {d : D} (h : hol x fun o => if c = true then (∃ s, o = .nx s ∧ I s) else o = .rt d) (k : c = true → ∀ s, I s → hol (b s) Q) (kr : c = false → Q (.rt d)) : hol (bindO x b) Q := by
  obtain ⟨o, rfl, q⟩ := h
  cases hc : c with
  | true =>
    rw [hc, if_pos rfl] at q
    obtain ⟨s, rfl, q⟩ := q
    exact k hc s q
  | false =>
    rw [hc, if_neg Bool.false_ne_true] at q
    subst q
    exact ⟨_, rfl, kr hc⟩
/-! x = y, taken over -/
def movX (x : Option D) (i j : Nat) (s : SS) : Option Out := match x with
  | some d => some (.nx (((dropBs j s).set j none).set i (some (.ow d))))
  | none => none
theorem ev_mov {i j : Nat} {s : SS} : movO i j s = movX (owA j s) i j s := by
  unfold movO owA movX
  generalize s[j]? = z
  rcases z with _ | _ | x
  · rfl
  · rfl
  · cases x <;> rfl
theorem eo_mov {d : D} {i j : Nat} {s : SS} : movX (some d) i j s = some (.nx (((dropBs j s).set j none).set i (some (.ow d)))) := (rfl)
/-! while -/
/-! reversed, parts from the end -/
theorem ev_revS {f : DE} {δ : DS} : dRevS f δ = (f δ).bind revS := (rfl)
/-! loops that only look -/
def ckO (b : Option Bool) (x : Option D) : Option (Option D) := match b with
  | some true => x.bind fun d => if d.imm = true then some (some d) else none
  | some false => some none
  | none => none
theorem ev_chkIf {fc : DS → Option Bool} {fe : DE} {δ : DS} : chkIf fc fe δ = ckO (fc δ) (fe δ) := by
  unfold chkIf ckO
  generalize fc δ = b
  rcases b with _ | _ | _ <;> rfl
theorem eo_ckf {x : Option D} : ckO (some false) x = some none := (rfl)
def csO (x y : Option (Option D)) : Option (Option D) := match x with
  | some none => y
  | some (some d) => some (some d)
  | none => none
theorem ev_chkSeq {f g : DS → Option (Option D)} {δ : DS} : chkSeq f g δ = csO (f δ) (g δ) := by
  unfold chkSeq csO
  generalize f δ = b
  rcases b with _ | _ | _ <;> rfl
theorem eo_csn {y : Option (Option D)} : csO (some none) y = y := (rfl)
def chkX (i : Nat) (ds : Option (List D)) (fb : DS → Option (Option D)) (s : SS) : Option Out := match ds with
  | some ds => if imms ds = true then chkD i fb ds s else none
  | none => none
theorem ev_forC {i : Nat} {fi : DS → Option (List D)} {fb : DS → Option (Option D)} {s : SS} : forC i fi fb s = chkX i (fi (allV s)) fb s := by
  unfold forC chkX
  generalize fi (allV s) = b
  rcases b with _ | _ <;> rfl
/-! exceptions -/
theorem runX_rt {np nl : Nat} {b : SS → Option Out} {ds : List D} {d : D} (hl : ds.length = np) (h : hol (b (ds.map (fun d => some (.sh d)) ++ List.replicate nl none)) fun o => o = .rt d) : runX np nl b ds = some (.val d) := by
  unfold runX
  rw [if_pos hl, hol_is.mp h]
theorem runX_ex {np nl : Nat} {b : SS → Option Out} {ds : List D} {c : Nat} (hl : ds.length = np) (h : hol (b (ds.map (fun d => some (.sh d)) ++ List.replicate nl none)) fun o => ∃ s, o = .ex c s) : runX np nl b ds = some (.exc c) := by
  obtain ⟨_, e, s, rfl⟩ := h
  unfold runX
  rw [if_pos hl, e]
def rsX (c : Nat) (x : Option D) (s : SS) : Option Out := match x with
  | some _ => some (.ex c s)
  | none => none
theorem ev_raise {c : Nat} {f : DE} {s : SS} : raiseO c f s = rsX c (f (allV s)) s := by
  unfold raiseO rsX
  generalize f (allV s) = x
  cases x <;> rfl
theorem eo_raise {c : Nat} {d : D} {s : SS} : rsX c (some d) s = some (.ex c s) := (rfl)
theorem ev_callX {m : List D → Option XO} {fl : List DE} {δ : DS} : dCallX m fl δ = (dArgs fl δ).bind m := (rfl)
theorem ev_callV {m : List D → Option XO} {fl : List DE} {δ : DS} : dCallV m fl δ = valO ((dArgs fl δ).bind m) := (rfl)
theorem ev_callM {F : List D → Option D} {f0 : DE} {fl : List DE} {δ : DS} : dCallM F f0 fl δ = mMV F (f0 δ) (immsO (dArgs fl δ)) := by
  unfold dCallM
  cases f0 δ with
  | none => rfl
  | some d0 =>
    cases dArgs fl δ with
    | none => rfl
    | some args =>
      show (if imms args = true then F (d0 :: args) else none) = mMV F (some d0) (if imms args = true then some args else none)
      split <;> rfl
def repO (x y : Option D) : Option (List D) := x.bind fun a => y.bind fun b => repLs a b
theorem ev_rep {f g : DE} {δ : DS} : dRep f g δ = repO (f δ) (g δ) := (rfl)
def ixXO (o : Option XO) (y : Option D) : Option XO := match o with
  | some (.val d) => y.bind fun y => (ixD d y).bind fun z => if z.imm = true then some (.val z) else none
  | some (.exc c) => some (.exc c)
  | none => none
theorem ev_ixX {F : DS → Option XO} {g : DE} {δ : DS} : dIxX F g δ = ixXO (F δ) (g δ) := by
  unfold dIxX ixXO
  cases F δ with
  | none => rfl
  | some o => cases o <;> rfl
theorem eo_ixXe {c : Nat} {y : Option D} : ixXO (some (.exc c)) y = some (.exc c) := (rfl)
theorem ev_disp1 {f g : DE} {δ : DS} : dDisp1 f g δ = o2 mkD1 (f δ) (g δ) := ev_d2
theorem ev_rngN {f g h : DE} {δ : DS} : dRngN f g h δ = rngN (f δ) (g δ) (h δ) := (rfl)
theorem ea_mkD1 {a b : Int} : mkD1 (.int a) (.int b) = some (.dct [.inl a] [.int b]) := (rfl)
theorem ea_ixLL {ds : List D} {i : Int} : ixL (.lst ds) (.int i) = atI ds i := (rfl)
def forX2 (i j : Nat) (xs : Option (List D)) (b : SS → Option Out) (s : SS) : Option Out := xs.bind fun ds => forD2 i j b ds s
theorem ev_forO2 {i j : Nat} {f : DS → Option (List D)} {g : SS → Option Out} {s : SS} : forO2 i j f g s = forX2 i j (f (shV s)) g s := (rfl)
theorem eo_for2 {i j : Nat} {ds : List D} {b : SS → Option Out} {s : SS} : forX2 i j (some ds) b s = forD2 i j b ds s := (rfl)
theorem eo_val {d : D} : valO (some (.val d)) = some d := (rfl)
def xrO (x : Option XO) (s : SS) : Option Out := match x with
  | some (.val d) => some (.rt d)
  | some (.exc c) => some (.ex c s)
  | none => none
def xeO (x : Option XO) (s : SS) : Option Out := match x with
  | some (.val _) => some (.nx s)
  | some (.exc c) => some (.ex c s)
  | none => none
def xaO (i : Nat) (x : Option XO) (s : SS) : Option Out := match x with
  | some (.val d) => some (.nx (s.set i (some (.ow d))))
  | some (.exc c) => some (.ex c s)
  | none => none
theorem ev_retX {F : DS → Option XO} {s : SS} : retX F s = xrO (F (allV s)) s := by
  unfold retX xrO
  generalize F (allV s) = x
  rcases x with _ | _ | _ <;> rfl
theorem ev_exprX {F : DS → Option XO} {s : SS} : exprX F s = xeO (F (allV s)) s := by
  unfold exprX xeO
  generalize F (allV s) = x
  rcases x with _ | _ | _ <;> rfl
theorem ev_asgX {i : Nat} {F : DS → Option XO} {s : SS} : asgX i F s = xaO i (F (allV s)) s := by
  unfold asgX xaO
  generalize F (allV s) = x
  rcases x with _ | _ | _ <;> rfl
theorem eo_xrV {d : D} {s : SS} : xrO (some (.val d)) s = some (.rt d) := (rfl)
theorem eo_xrE {c : Nat} {s : SS} : xrO (some (.exc c)) s = some (.ex c s) := (rfl)
theorem eo_xeV {d : D} {s : SS} : xeO (some (.val d)) s = some (.nx s) := (rfl)
theorem eo_xeE {c : Nat} {s : SS} : xeO (some (.exc c)) s = some (.ex c s) := (rfl)
theorem eo_xaV {i : Nat} {d : D} {s : SS} : xaO i (some (.val d)) s = some (.nx (s.set i (some (.ow d)))) := (rfl)
theorem eo_xaE {i c : Nat} {s : SS} : xaO i (some (.exc c)) s = some (.ex c s) := (rfl)
theorem eo_bex {c : Nat} {s : SS} {b : SS → Option Out} : bindO (some (.ex c s)) b = some (.ex c s) := (rfl)
def tryX (x : Option Out) (gh : Nat → SS → Option Out) : Option Out := match x with
  | some (.ex c s) => gh c s
  | o => o
theorem ev_try {gb : SS → Option Out} {gh : Nat → SS → Option Out} {s : SS} : tryO gb gh s = tryX (gb s) gh := by
  unfold tryO tryX
  generalize gb s = x
  rcases x with _ | x
  · rfl
  · cases x <;> rfl
theorem eo_trN {s : SS} {gh : Nat → SS → Option Out} : tryX (some (.nx s)) gh = some (.nx s) := (rfl)
theorem eo_trR {d : D} {gh : Nat → SS → Option Out} : tryX (some (.rt d)) gh = some (.rt d) := (rfl)
theorem eo_trE {c : Nat} {s : SS} {gh : Nat → SS → Option Out} : tryX (some (.ex c s)) gh = gh c s := (rfl)
/-! except .. as e -/
def unX (i : Nat) (x : Option Out) : Option Out := match x with
  | some o => unO i o
  | none => none
theorem ev_asX {i : Nat} {x : Str} {g : SS → Option Out} {s : SS} : asXO i x g s = unX i (g (s.set i (some (.sh (.exc x))))) := by
  unfold asXO unX
  generalize g (s.set i (some (.sh (.exc x)))) = z
  cases z <;> rfl
theorem eo_unN {i : Nat} {s : SS} : unX i (some (.nx s)) = some (.nx (s.set i none)) := (rfl)
theorem eo_unR {i : Nat} {d : D} : unX i (some (.rt d)) = some (.rt d) := (rfl)
/-! return [x, y] -/
def r2O (x y : Option D) : Option Out := match x, y with
  | some d, some e => some (.rt (.lst [d, e]))
  | _, _ => none
theorem ev_ret2 {i j : Nat} {s : SS} : ret2 i j s = r2O (ownV s i) (ownV s j) := by
  unfold ret2 r2O
  generalize ownV s i = x
  generalize ownV s j = y
  rcases x with _ | x <;> rcases y with _ | y <;> rfl
theorem eo_r2 {d e : D} : r2O (some d) (some e) = some (.rt (.lst [d, e])) := (rfl)
theorem es_own0 {d : D} {r : SS} : ownV (some (.ow d) :: r) 0 = some d := (rfl)
theorem es_own1 {d : D} {r : SS} : ownV (some (.sh d) :: r) 0 = immO (some d) := (rfl)
theorem es_ownS {x : Option SD} {r : SS} {i : Nat} : ownV (x :: r) (i + 1) = ownV r i := by
  unfold ownV
  rw [List.getElem?_cons_succ]
end L2

/-! ### M11: what the newer layer files want -/
namespace L2
open PySem
def stepO (x y z : Option D) : Option (List D) := x.bind fun x => y.bind fun y => z.bind fun z => stepLs x y z
theorem ev_step {f g h : DE} {δ : DS} : dStep f g h δ = stepO (f δ) (g δ) (h δ) := (rfl)
/-! ### loops over ranges of anything -/
def iv1 : Option D → Option (Int × Nat)
  | some (.int j) => if -(2 ^ 62) ≤ j ∧ j < 2 ^ 62 then some (0, j.toNat) else none
  | _ => none
def iv2 : Option D → Option D → Option (Int × Nat)
  | some (.int i), some (.int j) => if -(2 ^ 62) ≤ i ∧ i < 2 ^ 62 ∧ -(2 ^ 62) ≤ j ∧ j < 2 ^ 62 then some (i, (j - i).toNat) else none
  | _, _ => none
theorem ev_iv1 {f : DE} {δ : DS} : dIv1 f δ = iv1 (f δ) := (rfl)
theorem ev_iv2 {f g : DE} {δ : DS} : dIv2 f g δ = iv2 (f δ) (g δ) := (rfl)
def forIX (i : Nat) (o : Option (Int × Nat)) (b : SS → Option Out) (s : SS) : Option Out := o.bind fun z => forD i b (rngL z.1 z.2) s
theorem ev_forI {i : Nat} {f : DS → Option (Int × Nat)} {b : SS → Option Out} {s : SS} : forI i f b s = forIX i (f (allV s)) b s := (rfl)
theorem eo_forI {i : Nat} {lo : Int} {n : Nat} {b : SS → Option Out} {s : SS} : forIX i (some (lo, n)) b s = forD i b (rngL lo n) s := (rfl)
def r3O (x y z : Option D) : Option Out := match x, y, z with
  | some d, some e, some f => some (.rt (.lst [d, e, f]))
  | _, _, _ => none
theorem ev_ret3 {i j l : Nat} {s : SS} : ret3 i j l s = r3O (ownV s i) (ownV s j) (ownV s l) := by
  unfold ret3 r3O
  generalize ownV s i = x
  generalize ownV s j = y
  generalize ownV s l = z
  rcases x with _ | x <;> rcases y with _ | y <;> rcases z with _ | z <;> rfl
theorem eo_r3 {d e f : D} : r3O (some d) (some e) (some f) = some (.rt (.lst [d, e, f])) := (rfl)
/-! ### what can be compared -/
def okN (n : Nat) (d : D) : Prop := (toP d).canLay0 = true ∧ (toP d).depth ≤ n
def oksN (n : Nat) (ds : List D) : Prop := PyData.canLayAll0 (toPs ds) = true ∧ PyData.depthAll (toPs ds) ≤ n
theorem oks_all {n : Nat} : ∀ {ds : List D}, (∀ d ∈ ds, okN n d) → oksN n ds
  | [], _ => ⟨rfl, Nat.zero_le n⟩
  | d :: ds, h => by
    have h1 := h d List.mem_cons_self
    have h2 := oks_all fun x hx => h x (List.mem_cons_of_mem _ hx)
    constructor
    · show (PyData.canLay0 (toP d) && PyData.canLayAll0 (toPs ds)) = true
      rw [h1.1, h2.1]
      rfl
    · show max (PyData.depth (toP d)) (PyData.depthAll (toPs ds)) ≤ n
      have := h1.2
      have := h2.2
      omega
theorem okN_lst {n : Nat} {ds : List D} (h : ∀ d ∈ ds, okN n d) : okN (n + 1) (.lst ds) := by
  have := oks_all h
  exact ⟨this.1, Nat.succ_le_succ this.2⟩
theorem okN_tup {n : Nat} {ds : List D} (h : ∀ d ∈ ds, okN n d) : okN (n + 1) (.tup ds) := by
  have := oks_all h
  exact ⟨this.1, Nat.succ_le_succ this.2⟩
theorem okN_map {α : Type} {n : Nat} {f : α → D} {xs : List α} (h : ∀ x ∈ xs, okN n (f x)) : okN (n + 1) (.lst (xs.map f)) := okN_lst fun d hd => by
  obtain ⟨x, hx, rfl⟩ := List.mem_map.mp hd
  exact h x hx
theorem okN_mapT {α : Type} {n : Nat} {f : α → D} {xs : List α} (h : ∀ x ∈ xs, okN n (f x)) : okN (n + 1) (.tup (xs.map f)) := okN_tup fun d hd => by
  obtain ⟨x, hx, rfl⟩ := List.mem_map.mp hd
  exact h x hx
theorem okN_up {n k : Nat} {d : D} (h : okN n d) (hk : n ≤ k) : okN k d := ⟨h.1, Nat.le_trans h.2 hk⟩
theorem okN_int {i : Int} : okN 0 (.int i) := ⟨rfl, Nat.le_refl 0⟩
theorem okP_of {n : Nat} {d : D} (h : okN n d) (hn : n ≤ 60) : okP d = true := by
  unfold okP
  rw [Bool.and_eq_true, decide_eq_true_eq]
  exact ⟨h.1, Nat.le_trans h.2 hn⟩
/-! ### lists of anything -/
theorem app_mapV {α : Type} {enc : α → D} {xs : List α} {x : α} (hl : xs.length ≤ 1000000) : m0V appF (some (.lst (xs.map enc))) (some [enc x]) = some (.lst ((xs ++ [x]).map enc)) := by
  show (if (xs.map enc).length < sizeLine then some (xs.map enc ++ [enc x]) else none).map D.lst = _
  rw [List.length_map, if_pos (by rw [PySem.sizeLine_eq]; omega), List.map_append]
  rfl
theorem ea_at0 {x : D} {r : List D} : atI (x :: r) 0 = some x := atI_nat (j := 0) rfl
theorem ea_at1 {x y : D} {r : List D} : atI (x :: y :: r) 1 = some y := atI_nat (j := 1) rfl
theorem ea_at2 {x y z : D} {r : List D} : atI (x :: y :: z :: r) 2 = some z := atI_nat (j := 2) rfl
/-! ### tuples of things; cuts -/
theorem imms_all : ∀ {ds : List D}, (∀ d ∈ ds, d.imm = true) → imms ds = true
  | [], _ => rfl
  | d :: ds, h => by
    show (d.imm && imms ds) = true
    rw [h d List.mem_cons_self, imms_all fun x hx => h x (List.mem_cons_of_mem _ hx)]
    rfl
def cutTO (x : Option D) (lo hi : Option (Option Int)) : Option D := match x, lo, hi with
  | some (.tup ds), some l, some h => some (.tup (cutL ds l h))
  | _, _, _ => none
theorem ev_cutT {f : DE} {fl fh : DS → Option (Option Int)} {δ : DS} : dCutT f fl fh δ = cutTO (f δ) (fl δ) (fh δ) := by
  unfold dCutT cutTO
  rcases f δ with _ | (_ | _ | _ | _ | _ | _ | _ | _) <;> first | rfl | (cases fl δ <;> cases fh δ <;> rfl)
theorem cutL_drop {ds : List D} {k : Nat} : cutL ds (some (k : Int)) none = ds.drop k := by
  unfold cutL
  have e1 : HT.sIx ds.length 0 (some (k : Int)) = min k ds.length := by
    show (if (k : Int) < 0 then ((k : Int) + (ds.length : Int)).toNat else min (k : Int).toNat ds.length) = _
    rw [if_neg (by omega), Int.toNat_natCast]
  have e2 : HT.sIx ds.length ds.length none = ds.length := rfl
  rw [e1, e2]
  by_cases h : k ≤ ds.length
  · rw [Nat.min_eq_left h]
    exact List.take_of_length_le (by rw [List.length_drop]; exact Nat.le_refl _)
  · rw [Nat.min_eq_right (by omega), List.drop_of_length_le (Nat.le_refl _), List.drop_of_length_le (by omega), List.take_nil]
/-! ### lists put together, the script among them -/
def catSO (x y : Option D) : Option (List D) := x.bind fun x => y.bind fun y => catSs x y
theorem ev_catS {f g : DE} {δ : DS} : dCatS f g δ = catSO (f δ) (g δ) := (rfl)
theorem catS_rl {o ns : List Int} (h : ns.length + o.length ≤ 1000000) : catSO (some (.scr ns)) (some (.lst (o.map .int))) = some ((ns ++ o).map .int) := by
  show (if (ns.map D.int).length + (o.map D.int).length ≤ sizeLine then some (ns.map D.int ++ o.map D.int) else none) = _
  rw [if_pos (small_line (by simpa using h)), List.map_append]
/-! ### sorted(set(xs)) -/
theorem ev_sortS {f : DE} {δ : DS} : dSortS f δ = (f δ).bind sortSF := (rfl)
/-! ### max, min of lists -/
/-! ### lists of ints -/
/-! ### `if not` of a call that may raise -/
def xnO (x : Option XO) (g h : Option Out) (s : SS) : Option Out := x.bind fun o => match o with
  | .val (.bl k) => if k = true then h else g
  | .exc c => some (.ex c s)
  | _ => none
theorem ev_ifNX {F : DS → Option XO} {g h : SS → Option Out} {s : SS} : ifNX F g h s = xnO (F (allV s)) (g s) (h s) s := by
  unfold ifNX xnO
  rfl
theorem eo_xnT {g h : Option Out} {s : SS} : xnO (some (.val (.bl true))) g h s = h := (rfl)
theorem eo_xnF {g h : Option Out} {s : SS} : xnO (some (.val (.bl false))) g h s = g := (rfl)
theorem eo_xnE {g h : Option Out} {s : SS} {c : Nat} : xnO (some (.exc c)) g h s = some (.ex c s) := (rfl)
/-! ### `for` over a call that may raise -/
def fxO (x : Option XO) (i : Nat) (g : SS → Option Out) (s : SS) : Option Out := x.bind fun o => match o with
  | .val (.lst ds) => forD i g ds s
  | .exc c => some (.ex c s)
  | _ => none
theorem ev_forX {i : Nat} {F : DS → Option XO} {g : SS → Option Out} {s : SS} : forXO i F g s = fxO (F (allV s)) i g s := by
  unfold forXO fxO
  rfl
theorem eo_fxL {i : Nat} {ds : List D} {g : SS → Option Out} {s : SS} : fxO (some (.val (.lst ds))) i g s = forD i g ds s := (rfl)
theorem eo_fxE {i : Nat} {g : SS → Option Out} {s : SS} {c : Nat} : fxO (some (.exc c)) i g s = some (.ex c s) := (rfl)
end L2

/-! ### M12: what E63 and E64 want -/
namespace L2
open PySem
def cM2 (F : List D → Option D) (a b : Option D) (cs : Option (List D)) : Option D := a.bind fun a => b.bind fun b => cs.bind fun cs => F (a :: b :: cs)
theorem ev_callM2 {F : List D → Option D} {f0 f1 : DE} {fl : List DE} {δ : DS} : dCallM2 F f0 f1 fl δ = cM2 F (f0 δ) (f1 δ) (dArgs fl δ) := (rfl)
theorem eo_cM2 {F : List D → Option D} {a b : D} {cs : List D} : cM2 F (some a) (some b) (some cs) = F (a :: b :: cs) := (rfl)
def r1O (x : Option D) : Option Out := x.map fun d => .rt (.lst [d])
theorem ev_ret1 {i : Nat} {s : SS} : ret1 i s = r1O (ownV s i) := (rfl)
theorem eo_r1 {d : D} : r1O (some d) = some (.rt (.lst [d])) := (rfl)
def apX (x y : Option D) (i j : Nat) (s : SS) : Option Out := match x, y with
  | some d, some (.lst ds) => (appF ds [d]).map fun ds' => .nx (givS i j (.lst ds') s)
  | _, _ => none
theorem ev_appO {i j : Nat} {s : SS} : appO i j s = apX (owA j s) (owA i s) i j s := by
  unfold appO owA apX
  rcases s[j]? with _ | _ | ⟨x | x | ⟨r, x⟩⟩ <;> rcases s[i]? with _ | _ | ⟨y | y | ⟨r', y⟩⟩ <;> (first | rfl | (cases y <;> rfl))
end L2

/-! ### M13: what E66 wants -/
namespace L2
open PySem
def extDV (o x : Option D) : Option D := match x, o with
  | some (.lst es), some (.lst ds) => if imms es = true ∧ ds.length + es.length ≤ sizeLine then some (.lst (ds ++ es)) else none
  | _, _ => none
theorem ev_ext0D {i : Nat} {f : DE} {s : SS} : ext0D i f s = putO i (extDV (owA i s) (f (allV s))) s := by
  unfold ext0D owA
  cases f (allV s) with
  | none => rcases s[i]? with _ | _ | ⟨x | x | ⟨r, x⟩⟩ <;> rfl
  | some d =>
    cases d <;> rcases s[i]? with _ | _ | ⟨x | x | ⟨r, x⟩⟩ <;> (first | rfl | (cases x <;> (first | rfl | (show (if _ then _ else _) = putO i (if _ then _ else _) s; split <;> rfl))))
end L2

/-! ### M14: what E68 wants -/
namespace L2
open PySem
def st0NV (o k v : Option D) : Option D := match o, k, v with
  | some (.lst ds), some (.int k), some d => (ixN ds.length k).map fun j => .lst (ds.set j d)
  | _, _, _ => none
theorem ev_st0N {i : Nat} {fk fv : DE} {s : SS} : st0N i fk fv s = putO i (st0NV (owA i s) (fk (allV s)) (fv (allV s))) s := by
  unfold st0N owA
  rcases fv (allV s) with _ | d
  · rcases fk (allV s) with _ | k <;> rcases s[i]? with _ | _ | ⟨x | x | ⟨r, x⟩⟩ <;> (first | rfl | (cases x <;> first | rfl | (cases k <;> rfl)))
  · rcases fk (allV s) with _ | k
    · rcases s[i]? with _ | _ | ⟨x | x | ⟨r, x⟩⟩ <;> (first | rfl | (cases x <;> rfl))
    · rcases s[i]? with _ | _ | ⟨x | x | ⟨r, x⟩⟩ <;> cases k <;> (first | rfl | (cases x <;> first | rfl | skip))
      rename_i k ds
      show (ixN ds.length k).map _ = putO i ((ixN ds.length k).map _) s
      cases ixN ds.length k <;> rfl
end L2

/-! M15: zip, xs.append(ys.pop(0)) -/
namespace L2
open PySem
end L2

/-! M16: frozen lists of things -/
namespace L2
open PySem
end L2

/-! M17: texts -/
namespace L2
open PySem
def chS (c : Nat) : D := .str ⟨#[c]⟩
theorem ev_sgn {f : DE} {δ : DS} : dSgn f δ = (f δ).bind sgS := (rfl)
theorem sg_eq {x : Str} : sgS (.str x) = some (x.cps.toList.map chS) := (rfl)
theorem add_tx {x y : Str} (h : x.length + y.length ≤ 1000000) : addS (.str x) (.str y) = some (.str (x ++ y)) := if_pos h
theorem len_tx {x : Str} (h : x.length ≤ 1000000) : lenS [.str x] = some (.int (x.length : Int)) := if_pos h
theorem len_cat {x y : Str} : (x ++ y).length = x.length + y.length := by
  show (x.cps ++ y.cps).size = x.cps.size + y.cps.size
  simp
theorem tx_len {x : Str} : x.cps.toList.length = x.length := by simp [Str.length]
theorem le_ch {a c : Nat} : leS (chS a) (chS c) = some (.bl (decide (a ≤ c))) := by
  show some (D.bl (!decide ([c] < [a]))) = _
  congr 2
  by_cases h : a ≤ c
  · rw [decide_eq_true h, decide_eq_false (by rw [List.cons_lt_cons_iff]; simp; omega)]
    rfl
  · rw [decide_eq_false h, decide_eq_true (by rw [List.cons_lt_cons_iff]; simp; omega)]
    rfl
theorem nin_ch {c : Nat} {y : Str} : ninT (chS c) (.str y) = some (.bl (!decide (c ∈ y.cps.toList))) := by
  show some (D.bl (!(!(Builtin.Str.occurrences y ⟨#[c]⟩ 0 y.length 1).isEmpty))) = _
  rw [StrLaws.found_one]
theorem ix_tx {x : Str} {k : Nat} (hl : x.length ≤ 1000000) (h : k < x.cps.toList.length) : ixS (.str x) (.int (k : Int)) = some (chS x.cps.toList[k]) := by
  show (if x.length ≤ 1000000 then (atI x.cps.toList (k : Int)).map fun c => D.str ⟨#[c]⟩ else none) = _
  rw [if_pos hl, atI_nat (List.getElem?_eq_getElem h)]
  rfl
def sgn (x : Str) : Prop := ∀ c ∈ x.cps.toList, c < 128
theorem okN_str {x : Str} (h : sgn x) : okN 0 (.str x) := ⟨by
  show x.cps.all (fun c => decide (c < 1114112)) = true
  rw [← Array.all_toList, List.all_eq_true]
  intro c hc
  have := h c hc
  exact decide_eq_true (by omega), Nat.le_refl 0⟩
theorem sgn_cat {x y : Str} (hx : sgn x) (hy : sgn y) : sgn (x ++ y) := fun c hc => by
  have hc : c ∈ (x.cps ++ y.cps).toList := hc
  rw [Array.toList_append, List.mem_append] at hc
  exact hc.elim (hx c) (hy c)
theorem sgn_one {c : Nat} (h : c < 128) : sgn ⟨#[c]⟩ := fun d hd => by
  have : d = c := by simpa using hd
  omega
theorem str_num {n : Int} (h0 : 0 ≤ n) (h1 : n < 10 ^ 40) : hol (strF [.int n]) fun d => ∃ x : Str, d = .str x ∧ x.length ≤ 40 ∧ sgn x := by
  have hs : n.natAbs.log2 < 1920 := PyProof.Rows.shown (N := 10 ^ 40) (by omega) h1 (by decide +kernel)
  refine ⟨.str (Str.ofString (toString n)), if_pos hs, _, rfl, ?_⟩
  obtain ⟨m, rfl⟩ := Int.eq_ofNat_of_zero_le h0
  have e := PySem.W.KIN.signs_num m
  refine ⟨?_, fun c hc => ?_⟩
  · rw [← tx_len, e, List.length_map]
    refine (Nat.length_toDigits_le_iff (by decide) (by decide)).mpr ?_
    have : ((m : Nat) : Int) < ((10 ^ 40 : Nat) : Int) := by simpa using h1
    exact Int.ofNat_lt.mp this
  · rw [e] at hc
    obtain ⟨ch, hch, rfl⟩ := List.mem_map.mp hc
    have := PyProof.Rows.digit_range (Nat.isDigit_of_mem_toDigits (by decide) (by decide) hch)
    omega
end L2

/-! ### M18: the book -/
namespace L2
open PySem
section
variable {a : Addr} {m n k : Int} {es ls es' : List D} {r : List D} {d d0 o : D} {s : SS} {i j : Nat} {f : DE} {fl : List DE} {args : List D}
theorem se (x : Str) : (x == x) = true := beq_self_eq_true x
/-! the statements -/
end
end L2

/-! ### M19: the book, with refusals -/
namespace L2
open PySem
section
variable {a : Addr} {m n m' n' : Int} {es ls es' ls' : List D} {ds : List D} {d d0 o x y : D} {s s' : SS} {i c np nl : Nat} {f f2 f3 : DE} {fl : List DE} {args : List D} {g h : SS → Option Out} {F : List D → Option BO} {G : DS → Option XO} {δ : DS}
end
end L2

/-! ### M20: tests that change the state; a book and a list -/
namespace L2
open PySem
section
variable {a : Addr} {m n m' n' : Int} {es ls es' ls' xs ys : List D} {d d0 dw o x y : D} {s s' s2 : SS} {i j nl : Nat} {b c : Bool} {f : DE} {g h : SS → Option Out} {F : F3} {τ υ : SS → Option (Bool × SS)}
end
end L2

set_option maxHeartbeats 4000000
namespace Prg
open PySem PySem.Spec PyProof.Rows L2
def top (i : Nat) : Stmt := PySem.Challenge.pw_askorder_k88_rows_asked.main.body.getD i (.Pass ⟨0, 0, 0, 0⟩)
abbrev s_is_name : Stmt := top 7
abbrev N_is_name : List Str := ["word"]
abbrev P_is_name : List Str := ["word"]
abbrev s_number_of : Stmt := top 8
abbrev N_number_of : List Str := ["word"]
abbrev P_number_of : List Str := ["word"]
abbrev s_is_number : Stmt := top 9
abbrev N_is_number : List Str := ["word"]
abbrev P_is_number : List Str := ["word"]
abbrev s_row_asked : Stmt := top 12
abbrev N_row_asked : List Str := ["row", "words", "told", "left", "wanted"]
abbrev P_row_asked : List Str := ["row"]
abbrev s_first_as : Stmt := top 13
abbrev N_first_as : List Str := ["wanted", "words"]
abbrev P_first_as : List Str := ["wanted", "words"]
abbrev s_kind_of : Stmt := top 14
abbrev N_kind_of : List Str := ["word"]
abbrev P_kind_of : List Str := ["word"]
abbrev s_name_of : Stmt := top 15
abbrev N_name_of : List Str := ["word"]
abbrev P_name_of : List Str := ["word"]
abbrev s__law_whole : Stmt := top 17
abbrev N__law_whole : List Str := ["found"]
abbrev P__law_whole : List Str := ["found"]
abbrev s__law_word : Stmt := top 18
abbrev N__law_word : List Str := ["cell", "mode", "odd"]
abbrev P__law_word : List Str := ["cell"]
abbrev s__law_shape : Stmt := top 19
abbrev N__law_shape : List Str := ["first", "many", "shapes"]
abbrev P__law_shape : List Str := ["first", "many"]
abbrev s__law_fitting : Stmt := top 20
abbrev N__law_fitting : List Str := ["sort", "cell"]
abbrev P__law_fitting : List Str := ["sort", "cell"]
abbrev s__law_row : Stmt := top 21
abbrev N__law_row : List Str := ["cell", "firsts", "first", "many", "rest", "words", "sort", "k"]
abbrev P__law_row : List Str := ["cell"]
abbrev s__law_is : Stmt := top 22
abbrev N__law_is : List Str := ["sort", "word", "signs", "sign"]
abbrev P__law_is : List Str := ["sort", "word"]
abbrev s__law_due : Stmt := top 23
abbrev N__law_due : List Str := ["row", "words", "first", "known", "many", "shape", "k"]
abbrev P__law_due : List Str := ["row"]
abbrev s__law_refused : Stmt := top 24
abbrev N__law_refused : List Str := ["row", "told", "e"]
abbrev P__law_refused : List Str := ["row"]
abbrev s_law : Stmt := top 25
abbrev N_law : List Str := ["script", "cell", "row", "due", "found"]
abbrev P_law : List Str := ["script"]
theorem nd0 : (["word", "sign"] : List Str).Nodup := by decide +kernel
theorem nd1 : (["row", "words", "told", "left", "wanted", "word"] : List Str).Nodup := by decide +kernel
def want_WANTED : List (Str × List Str) := [("vote", ["number", "names"]), ("out", ["number"]), ("raise", ["number", "name"]), ("back", []), ("beats", ["name", "name"]), ("top", []), ("uncovered", []), ("crowns", []), ("weights", []), ("plain", ["names"]), ("ahead", ["names"]), ("rest", ["names"]), ("chair", ["kind", "names"]), ("line", []), ("parts", [])]
def g_is_name : SS → Option Out := (retI (dAnd (dChain leI leI (dC (.int 1)) (dCall lenS [(dVar 0)]) (dC (.int 12))) (dCall allF [(mkL (dComp (dSgn (dVar 0)) dYes (dChain leS leS (dC (.str "a")) (dVar 1) (dC (.str "z")))))])))
def m_is_name : List D → Option D := runD 1 0 g_is_name
def g_is_number : SS → Option Out := (seqO (ifO (dOrT (dNotT (dTest (dChain leI leI (dC (.int 1)) (dCall lenS [(dVar 0)]) (dC (.int 31))))) (dNotT (dTruth (dCall allF [(mkL (dComp (dSgn (dVar 0)) dYes (dChain leS leS (dC (.str "0")) (dVar 1) (dC (.str "9")))))])))) (retI (dC (.bl false))) skipO)
  (retI (dOr (d2 neD (d2 ixS (dVar 0) (dC (.int 0))) (dC (.str "0"))) (d2 eqD (dVar 0) (dC (.str "0"))))))
def m_is_number : List D → Option D := runD 1 0 g_is_number
def g_number_of : SS → Option Out := (seqO (ifO (dNotT (dTruth (dCall m_is_number [(dVar 0)]))) (raiseO 2 (dC (.str "the word is no number"))) skipO)
  (retI (dCall intS [(dVar 0)])))
def m_number_of : List D → Option XO := runX 1 0 g_number_of
def g_kind_of : SS → Option Out := (seqO (ifO (dTest (d2 ninD (dVar 0) (mkT (dArgs [(dC (.str "plain")), (dC (.str "ahead")), (dC (.str "rest"))])))) (raiseO 2 (dC (.str "the word is no kind"))) skipO)
  (retI (dVar 0)))
def m_kind_of : List D → Option XO := runX 1 0 g_kind_of
def g_name_of : SS → Option Out := (seqO (ifO (dNotT (dTruth (dCall m_is_name [(dVar 0)]))) (raiseO 2 (dC (.str "the word is no name"))) skipO)
  (retI (dVar 0)))
def m_name_of : List D → Option XO := runX 1 0 g_name_of
def g_first_as : SS → Option Out := (seqO (ifO (dNotT (dTruth (dVar 1))) (raiseO 2 (dC (.str "there are too few words"))) skipO)
  (seqO (ifO (dTest (d2 eqD (dVar 0) (dC (.str "number")))) (retX (dCallX m_number_of [(d2 ixD (dVar 1) (dC (.int 0)))])) skipO)
  (seqO (ifO (dTest (d2 eqD (dVar 0) (dC (.str "kind")))) (retX (dCallX m_kind_of [(d2 ixD (dVar 1) (dC (.int 0)))])) skipO)
  (retX (dCallX m_name_of [(d2 ixD (dVar 1) (dC (.int 0)))])))))
def m_first_as : List D → Option XO := runX 2 0 g_first_as
def g_row_asked : SS → Option Out := (seqO (asgS 1 (mkL (dSpl (dVar 0) (dC (.str " ")))))
  (seqO (ifO (dTest (d1 (nwantF want_WANTED) (d2 ixD (dVar 1) (dC (.int 0))))) (raiseO 2 (dC (.str "no row begins with this word"))) skipO)
  (seqO (asgN 2 (mkFlat (dArgs [(d2 ixD (dVar 1) (dC (.int 0)))])))
  (seqO (asgS 3 (mkL (dCut (dVar 1) (dPart (dC (.int 1))) dNoPart)))
  (seqO (forO 4 (dSeq (d1 (wantF want_WANTED) (d2 ixD (dVar 1) (dC (.int 0))))) (ifO (dTest (d2 eqD (dVar 4) (dC (.str "names")))) (seqO (altO (m0 2 appF [(dCall tupF [(mkL (dComp (dSeq (dVar 3)) dYes (dCallV m_name_of [(dVar 5)])))])]) (appE 2 (dCompX (dSeq (dVar 3)) (dCallX m_name_of [(dVar 5)]))))
  (asgS 3 (mkL (dArgs [])))) (seqO (altO (app0N 2 (dCallV m_first_as [(dVar 4), (dVar 3)])) (appE 2 (dCallX m_first_as [(dVar 4), (dVar 3)])))
  (asgS 3 (mkL (dCut (dVar 3) (dPart (dC (.int 1))) dNoPart))))))
  (seqO (ifO (dTruth (dVar 3)) (raiseO 2 (dC (.str "there are too many words"))) skipO)
  (retI (dCall tupF [(dVar 2)]))))))))
def m_row_asked : List D → Option XO := runX 1 4 g_row_asked
def g__law_whole : SS → Option Out := (retI (dAnd (dIs "int" (dVar 0)) (d1 uNot (dIs "bool" (dVar 0)))))
def m__law_whole : List D → Option D := runD 1 0 g__law_whole
def g__law_word : SS → Option Out := (seqO (asgI 1 (d2 modI (dVar 0) (dC (.int 8))))
  (seqO (asgS 2 (mkL (dArgs (List.map elD [("", none), ("A", none), ("a1", none), ("00", none), ("01", none), ("-1", none), ("+1", none), ("1_0", none), ("abcdefghijklm", none), ("1", some 32), ("\t", none), ("1.", none), ("a b", none), ("0", none)]))))
  (seqO (ifO (dTest (d2 ltI (dVar 1) (dC (.int 3)))) (retI (d2 ixD (mkL (dLitS ["a", "bc", "vote", "back", "plain", "thing", "abcdefghijkl"])) (d2 modI (d2 divI (dVar 0) (dC (.int 8))) (dC (.int 7))))) skipO)
  (seqO (ifO (dTest (d2 ltI (dVar 1) (dC (.int 5)))) (retI (dCall strF [(d2 modI (d2 divI (dVar 0) (dC (.int 8))) (d2 powI (dC (.int 10)) (dC (.int 31))))])) skipO)
  (seqO (ifO (dTest (d2 eqD (dVar 1) (dC (.int 5)))) (retI (d2 ixD (mkL (dLitS ["plain", "ahead", "rest"])) (d2 modI (d2 divI (dVar 0) (dC (.int 8))) (dC (.int 3))))) skipO)
  (seqO (ifO (dTest (d2 eqD (dVar 1) (dC (.int 6)))) (retI (dCall strF [(d2 modI (d2 divI (dVar 0) (dC (.int 8))) (dC (.int 12)))])) skipO)
  (retI (d2 ixD (dVar 2) (d2 modI (d2 divI (dVar 0) (dC (.int 8))) (dC (.int 14)))))))))))
def m__law_word : List D → Option D := runD 1 2 g__law_word
def g__law_shape : SS → Option Out := (seqO (asgN 2 (dDispN [((dC (.str "vote")), (d2 addS (dC (.str "f")) (d2 mulS (dC (.str "n")) (dVar 1)))), ((dC (.str "out")), (dC (.str "f"))), ((dC (.str "raise")), (dC (.str "fn"))), ((dC (.str "beats")), (dC (.str "nn"))), ((dC (.str "chair")), (d2 addS (dC (.str "k")) (d2 mulS (dC (.str "n")) (dVar 1))))]))
  (seqO (ifO (dDIn (dVar 0) (dVar 2)) (retI (d2 getK (dVar 2) (dVar 0))) skipO)
  (seqO (ifO (dTest (d2 inD (dVar 0) (mkL (dLitS ["plain", "ahead", "rest"])))) (retI (d2 mulS (dC (.str "n")) (dVar 1))) skipO)
  (retI (dC (.str ""))))))
def m__law_shape : List D → Option D := runD 2 1 g__law_shape
def g__law_fitting : SS → Option Out := (seqO (ifO (dTest (d2 eqD (dVar 0) (dC (.str "f")))) (retI (dCall strF [(d2 modI (dVar 1) (d2 powI (dC (.int 10)) (dC (.int 31))))])) skipO)
  (seqO (ifO (dTest (d2 eqD (dVar 0) (dC (.str "k")))) (retI (d2 ixD (mkL (dLitS ["plain", "ahead", "rest"])) (d2 modI (dVar 1) (dC (.int 3))))) skipO)
  (retI (d2 ixD (mkL (dLitS ["a", "bc", "vote", "rest", "thing", "abcdefghijkl"])) (d2 modI (dVar 1) (dC (.int 6)))))))
def m__law_fitting : List D → Option D := runD 2 0 g__law_fitting
def g__law_row : SS → Option Out := (seqO (asgS 1 (mkL (dLitS ["vote", "out", "raise", "back", "beats", "top", "uncovered", "crowns", "weights", "plain", "ahead"])))
  (seqO (asgS 1 (mkL (dCat (dVar 1) (mkL (dLitS ["rest", "chair", "line", "parts", "votes", "", "things"])))))
  (seqO (asgI 2 (d2 ixD (dVar 1) (d2 modI (dVar 0) (dC (.int 18)))))
  (seqO (asgI 3 (d2 modI (d2 divI (dVar 0) (dC (.int 18))) (dC (.int 6))))
  (seqO (asgI 4 (d2 divI (dVar 0) (dC (.int 108))))
  (seqO (asgN 5 (mkFlat (dArgs [(dVar 2)])))
  (seqO (ifO (dTest (d2 eqD (d2 modI (dVar 4) (dC (.int 2))) (dC (.int 0)))) (forO 6 (dSgn (dCall m__law_shape [(dVar 2), (dVar 3)])) (seqO (asgI 4 (d2 addI (d2 modI (d2 mulB (d2 divI (dVar 4) (dC (.int 2))) (dC (.int 48271))) (dC (.int 2147483647))) (dC (.int 2))))
  (app0N 5 (dCall m__law_fitting [(dVar 6), (dVar 4)])))) (forO 7 (dRng1 (dVar 3)) (seqO (asgI 4 (d2 modI (d2 mulB (d2 addI (dVar 4) (dVar 7)) (dC (.int 69621))) (dC (.int 2147483629))))
  (app0N 5 (dCall m__law_word [(dVar 4)])))))
  (retI (d2 joinS (dC (.str " ")) (dVar 5))))))))))
def m__law_row : List D → Option D := runD 1 7 g__law_row
def g__law_is : SS → Option Out := (seqO (ifO (dTest (d2 eqD (dVar 0) (dC (.str "k")))) (retI (d2 inD (dVar 1) (mkL (dLitS ["plain", "ahead", "rest"])))) skipO)
  (seqO (asgI 2 (dC (.str "abcdefghijklmnopqrstuvwxyz")))
  (seqO (ifO (dTest (d2 eqD (dVar 0) (dC (.str "f")))) (asgI 2 (dC (.str "0123456789"))) skipO)
  (seqO (forO 3 (dSgn (dVar 1)) (ifO (dTest (d2 ninT (dVar 3) (dVar 2))) (retI (dC (.bl false))) skipO))
  (seqO (ifO (dTest (d2 eqD (dVar 0) (dC (.str "f")))) (retI (dAnd (dChain ltI ltI (dC (.int 0)) (dCall lenS [(dVar 1)]) (dC (.int 32))) (dOr (d2 eqD (dVar 1) (dC (.str "0"))) (d2 neD (d2 ixS (dVar 1) (dC (.int 0))) (dC (.str "0")))))) skipO)
  (retI (dChain ltI ltI (dC (.int 0)) (dCall lenS [(dVar 1)]) (dC (.int 13)))))))))
def m__law_is : List D → Option D := runD 2 2 g__law_is
def g__law_due : SS → Option Out := (seqO (asgS 1 (mkL (dSpl (dVar 0) (dC (.str " ")))))
  (seqO (asgI 2 (d2 ixD (dVar 1) (dC (.int 0))))
  (seqO (asgS 3 (mkL (dLitS ["vote", "out", "raise", "back", "beats", "top", "uncovered", "crowns", "weights", "plain", "ahead"])))
  (seqO (asgI 4 (d2 subI (dCall lenF [(dVar 1)]) (dC (.int 1))))
  (seqO (ifO (dOrT (dTest (d2 eqD (dVar 2) (dC (.str "vote")))) (dTest (d2 eqD (dVar 2) (dC (.str "chair"))))) (asgI 4 (d2 subI (dVar 4) (dC (.int 1)))) skipO)
  (seqO (ifO (dOrT (dTest (d2 ninD (dVar 2) (mkL (dCat (dVar 3) (mkL (dLitS ["rest", "chair", "line", "parts"])))))) (dTest (d2 ltI (dVar 4) (dC (.int 0))))) (retI (dC .non)) skipO)
  (seqO (asgI 5 (dCall m__law_shape [(dVar 2), (dVar 4)]))
  (seqO (ifO (dTest (d2 neD (dCall lenS [(dVar 5)]) (d2 subI (dCall lenF [(dVar 1)]) (dC (.int 1))))) (retI (dC .non)) skipO)
  (seqO (forO 6 (dRng1 (dCall lenS [(dVar 5)])) (ifO (dNotT (dTruth (dCall m__law_is [(d2 ixS (dVar 5) (dVar 6)), (d2 ixD (dVar 1) (d2 addI (dVar 6) (dC (.int 1))))]))) (retI (dC .non)) skipO))
  (seqO (ifO (dTest (d2 inD (dVar 2) (mkL (dLitS ["plain", "ahead", "rest"])))) (retI (mkT (dArgs [(dVar 2), (dCall tupF [(mkL (dCut (dVar 1) (dPart (dC (.int 1))) dNoPart))])]))) skipO)
  (seqO (ifO (dTest (d2 eqD (dVar 2) (dC (.str "chair")))) (retI (mkT (dArgs [(dVar 2), (d2 ixD (dVar 1) (dC (.int 1))), (dCall tupF [(mkL (dCut (dVar 1) (dPart (dC (.int 2))) dNoPart))])]))) skipO)
  (seqO (ifO (dTest (d2 eqD (dVar 2) (dC (.str "vote")))) (retI (mkT (dArgs [(dVar 2), (dCall intS [(d2 ixD (dVar 1) (dC (.int 1)))]), (dCall tupF [(mkL (dCut (dVar 1) (dPart (dC (.int 2))) dNoPart))])]))) skipO)
  (seqO (ifO (dOrT (dTest (d2 eqD (dVar 2) (dC (.str "out")))) (dTest (d2 eqD (dVar 2) (dC (.str "raise"))))) (retI (dCall tupF [(mkL (dCat (mkL (dArgs [(dVar 2), (dCall intS [(d2 ixD (dVar 1) (dC (.int 1)))])])) (mkL (dCut (dVar 1) (dPart (dC (.int 2))) dNoPart))))])) skipO)
  (retI (dCall tupF [(dVar 1)])))))))))))))))
def m__law_due : List D → Option D := runD 1 6 g__law_due
def g__law_refused : SS → Option Out := (seqO (asgN 1 (mkFlat (dArgs [])))
  (seqO (tryO (exprX (dCallX m_row_asked [(dVar 0)])) (fun c => match c with | 0 => fun _ => none | 1 => fun _ => none | 2 => (asXO 2 "BadRow" (asgN 1 (mkFlat (dArgs [(d1 (isXF ["BadRow"] ["BadRow"]) (dVar 2)), (d1 (isXF [] ["BadRow"]) (dVar 2)), (d1 (isXF [] ["BadRow"]) (dVar 2)), (d1 (isXF [] ["BadRow"]) (dVar 2))])))) | 3 => fun _ => none | 4 => fun _ => none | _ + 5 => fun _ => none))
  (retI (d2 eqD (dVar 1) (mkL (dArgs [(dC (.bl true)), (dC (.bl false)), (dC (.bl false)), (dC (.bl false))]))))))
def m__law_refused : List D → Option D := runD 1 2 g__law_refused
def g_law : SS → Option Out := (seqO (forO 1 (dSeq (mkL (dCatS (dVar 0) (mkL (dArgs [(dC (.int 3))]))))) (seqO (asgI 2 (dCall m__law_row [(d2 modI (dVar 1) (d2 powI (dC (.int 10)) (dC (.int 40))))]))
  (seqO (asgI 3 (dCall m__law_due [(dVar 2)]))
  (ifO (dIsN (dVar 3)) (ifO (dNotT (dTruth (dCall m__law_refused [(dVar 2)]))) (retI (dC (.bl false))) skipO) (seqO (asgS 4 (dCallV m_row_asked [(dVar 2)]))
  (seqO (ifO (dOrT (dNotT (dTruth (dIs "tuple" (dVar 4)))) (dTest (d2 neD (dVar 4) (dVar 3)))) (retI (dC (.bl false))) skipO)
  (ifO (dAndT (dTest (d2 inD (d2 ixD (dVar 3) (dC (.int 0))) (mkL (dLitS ["vote", "out", "raise"])))) (dNotT (dTruth (dCall m__law_whole [(d2 ixD (dVar 4) (dC (.int 1)))])))) (retI (dC (.bl false))) skipO)))))))
  (retI (dC (.bl true))))
def m_law : List D → Option D := runD 1 4 g_law
structure Txt (mg : Str → Option Value) : Prop where
  b_len : mg "len" = none
  b_all : mg "all" = none
  b_int : mg "int" = none
  b_tuple : mg "tuple" = none
  b_isinstance : mg "isinstance" = none
  b_bool : mg "bool" = none
  b_str : mg "str" = none
  b_range : mg "range" = none
structure Cls (K : PySem.W.Frag) (mg : Str → Option Value) (base : Heap) (cl : Nat → Value) : Prop where
  o_AskError : ∃ C, cl 0 = .ref C ∧ OwnCls "AskError" C bmVE "ValueError.__new__" mg base ∧ PySem.W.nsIn K mainGlobals "AskError" = some (some (.ref C)) ∧ xclsB K C = true
  o_BadOrder : ∃ C, cl 1 = .ref C ∧ OwnCls "BadOrder" C bmVE "ValueError.__new__" mg base ∧ PySem.W.nsIn K mainGlobals "BadOrder" = some (some (.ref C)) ∧ xclsB K C = true
  o_BadRow : ∃ C, cl 2 = .ref C ∧ OwnCls "BadRow" C bmVE "ValueError.__new__" mg base ∧ PySem.W.nsIn K mainGlobals "BadRow" = some (some (.ref C)) ∧ xclsB K C = true
  o_BadNumber : ∃ C, cl 3 = .ref C ∧ OwnCls "BadNumber" C bmVE "ValueError.__new__" mg base ∧ PySem.W.nsIn K mainGlobals "BadNumber" = some (some (.ref C)) ∧ xclsB K C = true
  o_Unknown : ∃ C, cl 4 = .ref C ∧ OwnCls "Unknown" C bmVE "ValueError.__new__" mg base ∧ PySem.W.nsIn K mainGlobals "Unknown" = some (some (.ref C)) ∧ xclsB K C = true
  e_BadRow_AskError : ∀ C, cl 0 = .ref C → PySem.W.exmOne K (cl 2) (.ref C) = some true
  k_BadRow : ∀ D, cl 2 = .ref D → ∀ x, x ∈ (["BadRow"] : List Str) → ∀ C, PySem.W.nsIn K mainGlobals x = some (some (.ref C)) → PySem.W.kitOne K (.ref C) (.ref D) = some ((["BadRow"] : List Str).contains x)
  k_Unknown : ∀ D, cl 4 = .ref D → ∀ x, x ∈ (["BadRow"] : List Str) → ∀ C, PySem.W.nsIn K mainGlobals x = some (some (.ref C)) → PySem.W.kitOne K (.ref C) (.ref D) = some (([] : List Str).contains x)
  k_BadNumber : ∀ D, cl 3 = .ref D → ∀ x, x ∈ (["BadRow"] : List Str) → ∀ C, PySem.W.nsIn K mainGlobals x = some (some (.ref C)) → PySem.W.kitOne K (.ref C) (.ref D) = some (([] : List Str).contains x)
  k_BadOrder : ∀ D, cl 1 = .ref D → ∀ x, x ∈ (["BadRow"] : List Str) → ∀ C, PySem.W.nsIn K mainGlobals x = some (some (.ref C)) → PySem.W.kitOne K (.ref C) (.ref D) = some (([] : List Str).contains x)
section
variable {P : Program} {w : World} {K : PySem.W.Frag} {mg : Str → Option Value} {base : Heap} {cl : Nat → Value}
theorem sc_is_name : FnScope N_is_name P_is_name (defScope s_is_name) := ⟨rfl, rfl, rfl, by decide +kernel, rfl, by decide +kernel, by decide +kernel⟩
theorem ok_is_name {f : Addr} {fd : FuncData} (F : Fun K "is_name" "is_name" s_is_name f fd) (hm : mg "is_name" = some (.ref f)) (hb : Binds K fd P_is_name []) (T : Txt mg) : DefOk P w K mg base 1 "is_name" (spN K m_is_name) :=
  defN (k := 0) (g := g_is_name) F hm hb sc_is_name rfl rfl fun cdv A outer s H E hr =>
    (ss_one (s_retI (pd_and (pd_chain op_le op_le o2_bool0 o2_bool0 pd_int (pd_lenS rfl T.b_len (pd_v 0 (pv 0))) pd_int) (pd_one (pd_all rfl rfl T.b_all (pd_F (pf_comp (N' := ["word", "sign"])  rfl ⟨rfl, rfl, rfl, rfl, rfl⟩ (n := 1) rfl (pi_sgnD (pd_v 0 (pv 0))) (fun _ _ _ _ _ => pg_name (i := 1) nd0 rfl (Or.inl rfl)) (fun _ _ _ _ _ => pifs_nilD) (fun _ _ _ _ _ => (pd_chain op_leS op_leS o2_leS o2_leS pd_str (pd_v 1 (pv 1)) pd_str)))))))))
theorem sc_is_number : FnScope N_is_number P_is_number (defScope s_is_number) := ⟨rfl, rfl, rfl, by decide +kernel, rfl, by decide +kernel, by decide +kernel⟩
theorem ok_is_number {f : Addr} {fd : FuncData} (F : Fun K "is_number" "is_number" s_is_number f fd) (hm : mg "is_number" = some (.ref f)) (hb : Binds K fd P_is_number []) (T : Txt mg) : DefOk P w K mg base 1 "is_number" (spN K m_is_number) :=
  defN (k := 0) (g := g_is_number) F hm hb sc_is_number rfl rfl fun cdv A outer s H E hr =>
    (ss_cons (s_if (PW.pt (pw_orD (pt_notD (pt_chainD op_le op_le o2_bool0 o2_bool0 pd_int (pd_lenS rfl T.b_len (pd_v 0 (pv 0))) pd_int)) (pw_or1D (pt_notD (pt_truthD (pd_all rfl rfl T.b_all (pd_F (pf_comp (N' := ["word", "sign"])  rfl ⟨rfl, rfl, rfl, rfl, rfl⟩ (n := 1) rfl (pi_sgnD (pd_v 0 (pv 0))) (fun _ _ _ _ _ => pg_name (i := 1) nd0 rfl (Or.inl rfl)) (fun _ _ _ _ _ => pifs_nilD) (fun _ _ _ _ _ => (pd_chain op_leS op_leS o2_leS o2_leS pd_str (pd_v 1 (pv 1)) pd_str)))))))))) (ss_one (s_retI pd_bl)) ss_nil)
      (ss_one (s_retI (pd_or (pd_ne hr.units (pd_ixS (pd_v 0 (pv 0)) pd_int) pd_str) (pd_one (pd_eq hr.units (pd_v 0 (pv 0)) pd_str))))))
theorem sc_number_of : FnScope N_number_of P_number_of (defScope s_number_of) := ⟨rfl, rfl, rfl, by decide +kernel, rfl, by decide +kernel, by decide +kernel⟩
theorem ok_number_of {f : Addr} {fd : FuncData} (F : Fun K "number_of" "number_of" s_number_of f fd) (hm : mg "number_of" = some (.ref f)) (hb : Binds K fd P_number_of []) (T : Txt mg) (Z : Cls K mg base cl) (G_is_number : DefOk P w K mg base 1 "is_number" (spN K m_is_number)) : DefX P w K mg base 2 "number_of" (spX K cl m_number_of) := by
  obtain ⟨C_BadRow, hc_BadRow, O_BadRow, nn_BadRow, xb_BadRow⟩ := Z.o_BadRow
  exact ⟨f, fd, P_number_of, hm, F.kp, hb, fnX (k := 1) (g := g_number_of) F sc_number_of rfl rfl fun cdv A outer s H E hr =>
    (ss_cons (s_if (pt_notD (pt_truthD (pd_N (pn_callN G_is_number (hr.mono (by decide)) rfl (pad_cons (pd_v 0 (pv 0)) pad_nil))))) (ss_one (s_raiseV (c := 2) rfl rfl O_BadRow (want_def hc_BadRow) pd_str)) ss_nil)
      (ss_one (s_retI (pd_intT rfl T.b_int (pd_v 0 (pv 0))))))⟩
theorem sc_kind_of : FnScope N_kind_of P_kind_of (defScope s_kind_of) := ⟨rfl, rfl, rfl, by decide +kernel, rfl, by decide +kernel, by decide +kernel⟩
theorem ok_kind_of {f : Addr} {fd : FuncData} (F : Fun K "kind_of" "kind_of" s_kind_of f fd) (hm : mg "kind_of" = some (.ref f)) (hb : Binds K fd P_kind_of []) (T : Txt mg) (Z : Cls K mg base cl) : DefX P w K mg base 1 "kind_of" (spX K cl m_kind_of) := by
  obtain ⟨C_BadRow, hc_BadRow, O_BadRow, nn_BadRow, xb_BadRow⟩ := Z.o_BadRow
  exact ⟨f, fd, P_kind_of, hm, F.kp, hb, fnX (k := 0) (g := g_kind_of) F sc_kind_of rfl rfl fun cdv A outer s H E hr =>
    (ss_cons (s_if (pt_nin hr.units (pd_v 0 (pv 0)) (pd_tup (pad_cons pd_str (pad_cons pd_str (pad_cons pd_str pad_nil))))) (ss_one (s_raiseV (c := 2) rfl rfl O_BadRow (want_def hc_BadRow) pd_str)) ss_nil)
      (ss_one (s_retI (pd_v 0 (pv 0)))))⟩
theorem sc_name_of : FnScope N_name_of P_name_of (defScope s_name_of) := ⟨rfl, rfl, rfl, by decide +kernel, rfl, by decide +kernel, by decide +kernel⟩
theorem ok_name_of {f : Addr} {fd : FuncData} (F : Fun K "name_of" "name_of" s_name_of f fd) (hm : mg "name_of" = some (.ref f)) (hb : Binds K fd P_name_of []) (T : Txt mg) (Z : Cls K mg base cl) (G_is_name : DefOk P w K mg base 1 "is_name" (spN K m_is_name)) : DefX P w K mg base 2 "name_of" (spX K cl m_name_of) := by
  obtain ⟨C_BadRow, hc_BadRow, O_BadRow, nn_BadRow, xb_BadRow⟩ := Z.o_BadRow
  exact ⟨f, fd, P_name_of, hm, F.kp, hb, fnX (k := 1) (g := g_name_of) F sc_name_of rfl rfl fun cdv A outer s H E hr =>
    (ss_cons (s_if (pt_notD (pt_truthD (pd_N (pn_callN G_is_name (hr.mono (by decide)) rfl (pad_cons (pd_v 0 (pv 0)) pad_nil))))) (ss_one (s_raiseV (c := 2) rfl rfl O_BadRow (want_def hc_BadRow) pd_str)) ss_nil)
      (ss_one (s_retI (pd_v 0 (pv 0)))))⟩
theorem sc_first_as : FnScope N_first_as P_first_as (defScope s_first_as) := ⟨rfl, rfl, rfl, by decide +kernel, rfl, by decide +kernel, by decide +kernel⟩
theorem ok_first_as {f : Addr} {fd : FuncData} (F : Fun K "first_as" "first_as" s_first_as f fd) (hm : mg "first_as" = some (.ref f)) (hb : Binds K fd P_first_as []) (T : Txt mg) (Z : Cls K mg base cl) (G_number_of : DefX P w K mg base 2 "number_of" (spX K cl m_number_of)) (G_kind_of : DefX P w K mg base 1 "kind_of" (spX K cl m_kind_of)) (G_name_of : DefX P w K mg base 2 "name_of" (spX K cl m_name_of)) : DefX P w K mg base 3 "first_as" (spX K cl m_first_as) := by
  obtain ⟨C_BadRow, hc_BadRow, O_BadRow, nn_BadRow, xb_BadRow⟩ := Z.o_BadRow
  exact ⟨f, fd, P_first_as, hm, F.kp, hb, fnX (k := 2) (g := g_first_as) F sc_first_as rfl rfl fun cdv A outer s H E hr =>
    (ss_cons (s_if (pt_notD (pt_truthD (pd_v 1 (pv 1)))) (ss_one (s_raiseV (c := 2) rfl rfl O_BadRow (want_def hc_BadRow) pd_str)) ss_nil)
      (ss_cons (s_if (pt_eq hr.units (pd_v 0 (pv 0)) pd_str) (ss_one (s_retX (px_call G_number_of (hr.mono (by decide)) rfl xw_def (pad_cons (pd_ix (pd_v 1 (pv 1)) pd_int) pad_nil)))) ss_nil)
      (ss_cons (s_if (pt_eq hr.units (pd_v 0 (pv 0)) pd_str) (ss_one (s_retX (px_call G_kind_of (hr.mono (by decide)) rfl xw_def (pad_cons (pd_ix (pd_v 1 (pv 1)) pd_int) pad_nil)))) ss_nil)
      (ss_one (s_retX (px_call G_name_of (hr.mono (by decide)) rfl xw_def (pad_cons (pd_ix (pd_v 1 (pv 1)) pd_int) pad_nil)))))))⟩
theorem sc_row_asked : FnScope N_row_asked P_row_asked (defScope s_row_asked) := ⟨rfl, rfl, rfl, by decide +kernel, rfl, by decide +kernel, by decide +kernel⟩
theorem ok_row_asked {f : Addr} {fd : FuncData} (F : Fun K "row_asked" "row_asked" s_row_asked f fd) (hm : mg "row_asked" = some (.ref f)) (hb : Binds K fd P_row_asked []) (T : Txt mg) (Z : Cls K mg base cl) (W_WANTED : WantIn K w mg "WANTED" want_WANTED) (G_name_of : DefX P w K mg base 2 "name_of" (spX K cl m_name_of)) (G_first_as : DefX P w K mg base 3 "first_as" (spX K cl m_first_as)) : DefX P w K mg base 4 "row_asked" (spX K cl m_row_asked) := by
  obtain ⟨C_BadRow, hc_BadRow, O_BadRow, nn_BadRow, xb_BadRow⟩ := Z.o_BadRow
  exact ⟨f, fd, P_row_asked, hm, F.kp, hb, fnX (k := 3) (g := g_row_asked) F sc_row_asked rfl rfl fun cdv A outer s H E hr =>
    (ss_cons (s_asgS (pas_e (i := 1) sc_row_asked.nd rfl (Or.inl rfl) (pd_F (pf_split (pd_v 0 (pv 0)) pd_str))))
      (ss_cons (s_if (pt_nwant W_WANTED rfl (pd_ix (pd_v 1 (pv 1)) pd_int)) (ss_one (s_raiseV (c := 2) rfl rfl O_BadRow (want_def hc_BadRow) pd_str)) ss_nil)
      (ss_cons (s_asgN (pas_e (i := 2) sc_row_asked.nd rfl (Or.inl rfl) (pn_F (pf_list (pad_cons (pd_ix (pd_v 1 (pv 1)) pd_int) pad_nil)))))
      (ss_cons (s_asgS (pas_e (i := 3) sc_row_asked.nd rfl (Or.inl rfl) (pd_F (pf_slice (pd_v 1 (pv 1)) (po_someD pd_int) po_noneD))))
      (ss_cons (s_for PassesOwn.leaving rfl (pi_seqD (pd_want W_WANTED rfl (pd_ix (pd_v 1 (pv 1)) pd_int))) (pg_name (i := 4) sc_row_asked.nd rfl (Or.inl rfl)) (ss_one (s_if (pt_eq hr.units (pd_v 4 (pv 4)) pd_str) (ss_cons (s_or (s_m0 PySem.F.slot_list_append PySem.F.type_list_append mt_append lm_append (pv 2) (pad_cons (pd_tupOf rfl T.b_tuple (pd_N (pn_comp (N' := ["row", "words", "told", "left", "wanted", "word"])  rfl ⟨rfl, rfl, rfl, rfl, rfl⟩ (n := 5) rfl (pi_seqD (pd_v 3 (pv 3))) (fun _ _ _ _ _ => pg_name (i := 5) nd1 rfl (Or.inl rfl)) (fun _ _ _ _ _ => pifs_nilD) (fun _ _ _ _ _ => (pn_callX G_name_of (hr.mono (by decide)) rfl (pad_cons (pd_v 5 (pv 5)) pad_nil)))))) pad_nil)) (s_appE (pv 2) (pe_tupE rfl T.b_tuple (pe_compX (N' := ["row", "words", "told", "left", "wanted", "word"]) rfl ⟨_, rfl⟩ xl_def rfl ⟨rfl, rfl, rfl, rfl, rfl⟩ (n := 5) rfl (pi_seqD (pd_v 3 (pv 3))) (fun _ _ _ _ _ => pg_name (i := 5) nd1 rfl (Or.inl rfl)) (fun _ _ _ _ _ => pifs_nilD) (fun _ _ _ _ _ hw => (px_nX (px_call G_name_of (hr.mono (by decide)) rfl hw (pad_cons (pd_v 5 (pv 5)) pad_nil))))))))
      (ss_one (s_asgS (pas_e (i := 3) sc_row_asked.nd rfl (Or.inl rfl) (pd_F (pf_list pad_nil)))))) (ss_cons (s_or (s_appendN (pv 2) (pn_callX G_first_as (hr.mono (by decide)) rfl (pad_cons (pd_v 4 (pv 4)) (pad_cons (pd_v 3 (pv 3)) pad_nil)))) (s_appE (pv 2) (pe_exX (px_nX (px_call G_first_as (hr.mono (by decide)) rfl xw_def (pad_cons (pd_v 4 (pv 4)) (pad_cons (pd_v 3 (pv 3)) pad_nil)))))))
      (ss_one (s_asgS (pas_e (i := 3) sc_row_asked.nd rfl (Or.inl rfl) (pd_F (pf_slice (pd_v 3 (pv 3)) (po_someD pd_int) po_noneD)))))))))
      (ss_cons (s_if (pt_truthD (pd_v 3 (pv 3))) (ss_one (s_raiseV (c := 2) rfl rfl O_BadRow (want_def hc_BadRow) pd_str)) ss_nil)
      (ss_one (s_retI (pd_tupOf rfl T.b_tuple (pd_v 2 (pv 2)))))))))))⟩
theorem sc__law_whole : FnScope N__law_whole P__law_whole (defScope s__law_whole) := ⟨rfl, rfl, rfl, by decide +kernel, rfl, by decide +kernel, by decide +kernel⟩
theorem ok__law_whole {f : Addr} {fd : FuncData} (F : Fun K "_law_whole" "_law_whole" s__law_whole f fd) (hm : mg "_law_whole" = some (.ref f)) (hb : Binds K fd P__law_whole []) (T : Txt mg) : DefOk P w K mg base 1 "_law_whole" (spN K m__law_whole) :=
  defN (k := 0) (g := g__law_whole) F hm hb sc__law_whole rfl rfl fun cdv A outer s H E hr =>
    (ss_one (s_retI (pd_and (pd_isInt rfl T.b_int rfl T.b_isinstance (pd_v 0 (pv 0))) (pd_one (pd_not (pd_isBool rfl T.b_bool rfl T.b_isinstance (pd_v 0 (pv 0))))))))
theorem sc__law_word : FnScope N__law_word P__law_word (defScope s__law_word) := ⟨rfl, rfl, rfl, by decide +kernel, rfl, by decide +kernel, by decide +kernel⟩
theorem ok__law_word {f : Addr} {fd : FuncData} (F : Fun K "_law_word" "_law_word" s__law_word f fd) (hm : mg "_law_word" = some (.ref f)) (hb : Binds K fd P__law_word []) (T : Txt mg) : DefOk P w K mg base 1 "_law_word" (spN K m__law_word) :=
  defNb (k := 0) (g := g__law_word) F hm hb sc__law_word rfl rfl fun cdv A outer s H E hr =>
    (ss_consB (sb (s_asgI (pas_e (i := 1) sc__law_word.nd rfl (Or.inl rfl) (pd_mod (pd_v 0 (pv 0)) pd_int))))
      (ss_consB (s_asgLV (i := 2) sc__law_word.nd rfl (Or.inl rfl) rfl rfl (Or.inl rfl))
      (ss_consB (sb (s_if (pt_lt (pd_v 1 (pv 1)) pd_int) (ss_one (s_retI (pd_ix (pd_F (pf_litS (ts := ["a", "bc", "vote", "back", "plain", "thing", "abcdefghijkl"]) rfl rfl)) (pd_mod (pd_div (pd_v 0 (pv 0)) pd_int) pd_int)))) ss_nil))
      (ss_consB (sb (s_if (pt_lt (pd_v 1 (pv 1)) pd_int) (ss_one (s_retI (pd_strN rfl T.b_str (pd_mod (pd_div (pd_v 0 (pv 0)) pd_int) (pd_pow pd_int pd_int))))) ss_nil))
      (ss_consB (sb (s_if (pt_eq hr.units (pd_v 1 (pv 1)) pd_int) (ss_one (s_retI (pd_ix (pd_F (pf_litS (ts := ["plain", "ahead", "rest"]) rfl rfl)) (pd_mod (pd_div (pd_v 0 (pv 0)) pd_int) pd_int)))) ss_nil))
      (ss_consB (sb (s_if (pt_eq hr.units (pd_v 1 (pv 1)) pd_int) (ss_one (s_retI (pd_strN rfl T.b_str (pd_mod (pd_div (pd_v 0 (pv 0)) pd_int) pd_int)))) ss_nil))
      (ss_oneB (sb (s_retI (pd_ix (pd_v 2 (pv 2)) (pd_mod (pd_div (pd_v 0 (pv 0)) pd_int) pd_int)))))))))))
theorem sc__law_shape : FnScope N__law_shape P__law_shape (defScope s__law_shape) := ⟨rfl, rfl, rfl, by decide +kernel, rfl, by decide +kernel, by decide +kernel⟩
theorem ok__law_shape {f : Addr} {fd : FuncData} (F : Fun K "_law_shape" "_law_shape" s__law_shape f fd) (hm : mg "_law_shape" = some (.ref f)) (hb : Binds K fd P__law_shape []) (T : Txt mg) : DefOk P w K mg base 1 "_law_shape" (spN K m__law_shape) :=
  defNb (k := 0) (g := g__law_shape) F hm hb sc__law_shape rfl rfl fun cdv A outer s H E hr =>
    (ss_consB (sb (by refine s_asgN ?_; refine pas_e (i := 2) (x := "shapes") (hs := ?hs) (hf := ?hf) ?nd ?hi ?hx ?he; (case nd => exact sc__law_shape.nd); (case hi => rfl); (case hx => exact (Or.inl rfl)); (case he => exact (pn_dispN (l := [((dC (.str "vote")), (d2 addS (dC (.str "f")) (d2 mulS (dC (.str "n")) (dVar 1)))), ((dC (.str "out")), (dC (.str "f"))), ((dC (.str "raise")), (dC (.str "fn"))), ((dC (.str "beats")), (dC (.str "nn"))), ((dC (.str "chair")), (d2 addS (dC (.str "k")) (d2 mulS (dC (.str "n")) (dVar 1))))]) (pps_cons pd_str (pd_addS pd_str (pd_mulS pd_str (pd_v 1 (pv 1)))) (pps_cons pd_str pd_str (pps_cons pd_str pd_str (pps_cons pd_str pd_str (pps_cons pd_str (pd_addS pd_str (pd_mulS pd_str (pd_v 1 (pv 1)))) pps_nil))))))); (case hs => rfl); (case hf => first | exact .inl rfl | exact .inr rfl)))
      (ss_consB (sb (s_if (pt_din hr.units (pd_v 0 (pv 0)) (pd_v 2 (pv 2))) (ss_one (s_retI (pd_dget hr.units (pd_v 2 (pv 2)) (pd_v 0 (pv 0))))) ss_nil))
      (ss_consB (sb (s_if (pt_in hr.units (pd_v 0 (pv 0)) (pd_F (pf_litS (ts := ["plain", "ahead", "rest"]) rfl rfl))) (ss_one (s_retI (pd_mulS pd_str (pd_v 1 (pv 1))))) ss_nil))
      (ss_oneB (sb (s_retI pd_str))))))
theorem sc__law_fitting : FnScope N__law_fitting P__law_fitting (defScope s__law_fitting) := ⟨rfl, rfl, rfl, by decide +kernel, rfl, by decide +kernel, by decide +kernel⟩
theorem ok__law_fitting {f : Addr} {fd : FuncData} (F : Fun K "_law_fitting" "_law_fitting" s__law_fitting f fd) (hm : mg "_law_fitting" = some (.ref f)) (hb : Binds K fd P__law_fitting []) (T : Txt mg) : DefOk P w K mg base 1 "_law_fitting" (spN K m__law_fitting) :=
  defN (k := 0) (g := g__law_fitting) F hm hb sc__law_fitting rfl rfl fun cdv A outer s H E hr =>
    (ss_cons (s_if (pt_eq hr.units (pd_v 0 (pv 0)) pd_str) (ss_one (s_retI (pd_strN rfl T.b_str (pd_mod (pd_v 1 (pv 1)) (pd_pow pd_int pd_int))))) ss_nil)
      (ss_cons (s_if (pt_eq hr.units (pd_v 0 (pv 0)) pd_str) (ss_one (s_retI (pd_ix (pd_F (pf_litS (ts := ["plain", "ahead", "rest"]) rfl rfl)) (pd_mod (pd_v 1 (pv 1)) pd_int)))) ss_nil)
      (ss_one (s_retI (pd_ix (pd_F (pf_litS (ts := ["a", "bc", "vote", "rest", "thing", "abcdefghijkl"]) rfl rfl)) (pd_mod (pd_v 1 (pv 1)) pd_int))))))
theorem sc__law_row : FnScope N__law_row P__law_row (defScope s__law_row) := ⟨rfl, rfl, rfl, by decide +kernel, rfl, by decide +kernel, by decide +kernel⟩
theorem ok__law_row {f : Addr} {fd : FuncData} (F : Fun K "_law_row" "_law_row" s__law_row f fd) (hm : mg "_law_row" = some (.ref f)) (hb : Binds K fd P__law_row []) (T : Txt mg) (G__law_word : DefOk P w K mg base 1 "_law_word" (spN K m__law_word)) (G__law_shape : DefOk P w K mg base 1 "_law_shape" (spN K m__law_shape)) (G__law_fitting : DefOk P w K mg base 1 "_law_fitting" (spN K m__law_fitting)) : DefOk P w K mg base 2 "_law_row" (spN K m__law_row) :=
  defNb (k := 1) (g := g__law_row) F hm hb sc__law_row rfl rfl fun cdv A outer s H E hr =>
    (ss_consB (s_asgLS (i := 1) sc__law_row.nd rfl (Or.inl rfl) rfl rfl (Or.inl rfl))
      (ss_consB (sb (by refine s_asgS ?_; refine pas_e (i := 1) (x := "firsts") (hs := ?hs) (hf := ?hf) ?nd ?hi ?hx ?he; (case nd => exact sc__law_row.nd); (case hi => rfl); (case hx => exact (Or.inl rfl)); (case he => exact (pd_F (pf_cat (pd_v 1 (pv 1)) (pd_F (pf_litS (ts := ["rest", "chair", "line", "parts", "votes", "", "things"]) rfl rfl))))); (case hs => rfl); (case hf => first | exact .inl rfl | exact .inr rfl)))
      (ss_consB (sb (s_asgI (pas_e (i := 2) sc__law_row.nd rfl (Or.inl rfl) (pd_ix (pd_v 1 (pv 1)) (pd_mod (pd_v 0 (pv 0)) pd_int)))))
      (ss_consB (sb (s_asgI (pas_e (i := 3) sc__law_row.nd rfl (Or.inl rfl) (pd_mod (pd_div (pd_v 0 (pv 0)) pd_int) pd_int))))
      (ss_consB (sb (s_asgI (pas_e (i := 4) sc__law_row.nd rfl (Or.inl rfl) (pd_div (pd_v 0 (pv 0)) pd_int))))
      (ss_consB (sb (s_asgN (pas_e (i := 5) sc__law_row.nd rfl (Or.inl rfl) (pn_F (pf_list (pad_cons (pd_v 2 (pv 2)) pad_nil))))))
      (ss_consB (sb (s_if (pt_eq hr.units (pd_mod (pd_v 4 (pv 4)) pd_int) pd_int) (ss_one (s_for PassesOwn.never rfl (pi_sgnD (pd_N (pn_callN G__law_shape (hr.mono (by decide)) rfl (pad_cons (pd_v 2 (pv 2)) (pad_cons (pd_v 3 (pv 3)) pad_nil))))) (pg_name (i := 6) sc__law_row.nd rfl (Or.inl rfl)) (ss_cons (s_asgI (pas_e (i := 4) sc__law_row.nd rfl (Or.inl rfl) (pd_add (pd_mod (pd_mulB (pd_div (pd_v 4 (pv 4)) pd_int) pd_int) pd_int) pd_int)))
      (ss_one (s_appendN (pv 5) (pn_callN G__law_fitting (hr.mono (by decide)) rfl (pad_cons (pd_v 6 (pv 6)) (pad_cons (pd_v 4 (pv 4)) pad_nil)))))))) (ss_one (s_for PassesOwn.never rfl (pi_rng1 rfl T.b_range (pd_v 3 (pv 3))) (pg_name (i := 7) sc__law_row.nd rfl (Or.inl rfl)) (ss_cons (s_asgI (pas_e (i := 4) sc__law_row.nd rfl (Or.inl rfl) (pd_mod (pd_mulB (pd_add (pd_v 4 (pv 4)) (pd_v 7 (pv 7))) pd_int) pd_int)))
      (ss_one (s_appendN (pv 5) (pn_callN G__law_word (hr.mono (by decide)) rfl (pad_cons (pd_v 4 (pv 4)) pad_nil)))))))))
      (ss_oneB (sb (s_retI (pd_join pd_str (pd_v 5 (pv 5)))))))))))))
theorem sc__law_is : FnScope N__law_is P__law_is (defScope s__law_is) := ⟨rfl, rfl, rfl, by decide +kernel, rfl, by decide +kernel, by decide +kernel⟩
theorem ok__law_is {f : Addr} {fd : FuncData} (F : Fun K "_law_is" "_law_is" s__law_is f fd) (hm : mg "_law_is" = some (.ref f)) (hb : Binds K fd P__law_is []) (T : Txt mg) : DefOk P w K mg base 1 "_law_is" (spN K m__law_is) :=
  defN (k := 0) (g := g__law_is) F hm hb sc__law_is rfl rfl fun cdv A outer s H E hr =>
    (ss_cons (s_if (pt_eq hr.units (pd_v 0 (pv 0)) pd_str) (ss_one (s_retI (pd_in hr.units (pd_v 1 (pv 1)) (pd_F (pf_litS (ts := ["plain", "ahead", "rest"]) rfl rfl))))) ss_nil)
      (ss_cons (s_asgI (pas_e (i := 2) sc__law_is.nd rfl (Or.inl rfl) pd_str))
      (ss_cons (s_if (pt_eq hr.units (pd_v 0 (pv 0)) pd_str) (ss_one (s_asgI (pas_e (i := 2) sc__law_is.nd rfl (Or.inl rfl) pd_str))) ss_nil)
      (ss_cons (s_for PassesOwn.never rfl (pi_sgnD (pd_v 1 (pv 1))) (pg_name (i := 3) sc__law_is.nd rfl (Or.inl rfl)) (ss_one (s_if (pt_ninT (pd_v 3 (pv 3)) (pd_v 2 (pv 2))) (ss_one (s_retI pd_bl)) ss_nil)))
      (ss_cons (s_if (pt_eq hr.units (pd_v 0 (pv 0)) pd_str) (ss_one (s_retI (pd_and (pd_chain op_lt op_lt o2_bool0 o2_bool0 pd_int (pd_lenS rfl T.b_len (pd_v 1 (pv 1))) pd_int) (pd_one (pd_or (pd_eq hr.units (pd_v 1 (pv 1)) pd_str) (pd_one (pd_ne hr.units (pd_ixS (pd_v 1 (pv 1)) pd_int) pd_str))))))) ss_nil)
      (ss_one (s_retI (pd_chain op_lt op_lt o2_bool0 o2_bool0 pd_int (pd_lenS rfl T.b_len (pd_v 1 (pv 1))) pd_int))))))))
theorem sc__law_due : FnScope N__law_due P__law_due (defScope s__law_due) := ⟨rfl, rfl, rfl, by decide +kernel, rfl, by decide +kernel, by decide +kernel⟩
theorem ok__law_due {f : Addr} {fd : FuncData} (F : Fun K "_law_due" "_law_due" s__law_due f fd) (hm : mg "_law_due" = some (.ref f)) (hb : Binds K fd P__law_due []) (T : Txt mg) (G__law_shape : DefOk P w K mg base 1 "_law_shape" (spN K m__law_shape)) (G__law_is : DefOk P w K mg base 1 "_law_is" (spN K m__law_is)) : DefOk P w K mg base 2 "_law_due" (spN K m__law_due) :=
  defNb (k := 1) (g := g__law_due) F hm hb sc__law_due rfl rfl fun cdv A outer s H E hr =>
    (ss_consB (sb (s_asgS (pas_e (i := 1) sc__law_due.nd rfl (Or.inl rfl) (pd_F (pf_split (pd_v 0 (pv 0)) pd_str)))))
      (ss_consB (sb (s_asgI (pas_e (i := 2) sc__law_due.nd rfl (Or.inl rfl) (pd_ix (pd_v 1 (pv 1)) pd_int))))
      (ss_consB (s_asgLS (i := 3) sc__law_due.nd rfl (Or.inl rfl) rfl rfl (Or.inl rfl))
      (ss_consB (sb (s_asgI (pas_e (i := 4) sc__law_due.nd rfl (Or.inl rfl) (pd_sub (pd_len rfl T.b_len (pd_v 1 (pv 1))) pd_int))))
      (ss_consB (sb (s_if (PW.pt (pw_orD (pt_eq hr.units (pd_v 2 (pv 2)) pd_str) (pw_or1D (pt_eq hr.units (pd_v 2 (pv 2)) pd_str)))) (ss_one (s_asgI (pas_e (i := 4) sc__law_due.nd rfl (Or.inl rfl) (pd_sub (pd_v 4 (pv 4)) pd_int)))) ss_nil))
      (ss_consB (sb (s_if (PW.pt (pw_orD (pt_nin hr.units (pd_v 2 (pv 2)) (pd_F (pf_cat (pd_v 3 (pv 3)) (pd_F (pf_litS (ts := ["rest", "chair", "line", "parts"]) rfl rfl))))) (pw_or1D (pt_lt (pd_v 4 (pv 4)) pd_int)))) (ss_one (s_retI pd_non)) ss_nil))
      (ss_consB (sb (s_asgI (pas_e (i := 5) sc__law_due.nd rfl (Or.inl rfl) (pd_N (pn_callN G__law_shape (hr.mono (by decide)) rfl (pad_cons (pd_v 2 (pv 2)) (pad_cons (pd_v 4 (pv 4)) pad_nil)))))))
      (ss_consB (sb (s_if (pt_ne hr.units (pd_lenS rfl T.b_len (pd_v 5 (pv 5))) (pd_sub (pd_len rfl T.b_len (pd_v 1 (pv 1))) pd_int)) (ss_one (s_retI pd_non)) ss_nil))
      (ss_consB (sb (s_for PassesOwn.never rfl (pi_rng1 rfl T.b_range (pd_lenS rfl T.b_len (pd_v 5 (pv 5)))) (pg_name (i := 6) sc__law_due.nd rfl (Or.inl rfl)) (ss_one (s_if (pt_notD (pt_truthD (pd_N (pn_callN G__law_is (hr.mono (by decide)) rfl (pad_cons (pd_ixS (pd_v 5 (pv 5)) (pd_v 6 (pv 6))) (pad_cons (pd_ix (pd_v 1 (pv 1)) (pd_add (pd_v 6 (pv 6)) pd_int)) pad_nil)))))) (ss_one (s_retI pd_non)) ss_nil))))
      (ss_consB (sb (s_if (pt_in hr.units (pd_v 2 (pv 2)) (pd_F (pf_litS (ts := ["plain", "ahead", "rest"]) rfl rfl))) (ss_one (s_retI (pd_tup (pad_cons (pd_v 2 (pv 2)) (pad_cons (pd_tupOf rfl T.b_tuple (pd_F (pf_slice (pd_v 1 (pv 1)) (po_someD pd_int) po_noneD))) pad_nil))))) ss_nil))
      (ss_consB (sb (s_if (pt_eq hr.units (pd_v 2 (pv 2)) pd_str) (ss_one (s_retI (pd_tup (pad_cons (pd_v 2 (pv 2)) (pad_cons (pd_ix (pd_v 1 (pv 1)) pd_int) (pad_cons (pd_tupOf rfl T.b_tuple (pd_F (pf_slice (pd_v 1 (pv 1)) (po_someD pd_int) po_noneD))) pad_nil)))))) ss_nil))
      (ss_consB (sb (s_if (pt_eq hr.units (pd_v 2 (pv 2)) pd_str) (ss_one (s_retI (pd_tup (pad_cons (pd_v 2 (pv 2)) (pad_cons (pd_intT rfl T.b_int (pd_ix (pd_v 1 (pv 1)) pd_int)) (pad_cons (pd_tupOf rfl T.b_tuple (pd_F (pf_slice (pd_v 1 (pv 1)) (po_someD pd_int) po_noneD))) pad_nil)))))) ss_nil))
      (ss_consB (sb (s_if (PW.pt (pw_orD (pt_eq hr.units (pd_v 2 (pv 2)) pd_str) (pw_or1D (pt_eq hr.units (pd_v 2 (pv 2)) pd_str)))) (ss_one (s_retI (pd_tupOf rfl T.b_tuple (pd_F (pf_cat (pd_F (pf_list (pad_cons (pd_v 2 (pv 2)) (pad_cons (pd_intT rfl T.b_int (pd_ix (pd_v 1 (pv 1)) pd_int)) pad_nil)))) (pd_F (pf_slice (pd_v 1 (pv 1)) (po_someD pd_int) po_noneD))))))) ss_nil))
      (ss_oneB (sb (s_retI (pd_tupOf rfl T.b_tuple (pd_v 1 (pv 1)))))))))))))))))))
theorem sc__law_refused : FnScope N__law_refused P__law_refused (defScope s__law_refused) := ⟨rfl, rfl, rfl, by decide +kernel, rfl, by decide +kernel, by decide +kernel⟩
theorem ok__law_refused {f : Addr} {fd : FuncData} (F : Fun K "_law_refused" "_law_refused" s__law_refused f fd) (hm : mg "_law_refused" = some (.ref f)) (hb : Binds K fd P__law_refused []) (T : Txt mg) (Z : Cls K mg base cl) (G_row_asked : DefX P w K mg base 4 "row_asked" (spX K cl m_row_asked)) : DefOk P w K mg base 5 "_law_refused" (spN K m__law_refused) := by
  obtain ⟨C_AskError, hc_AskError, O_AskError, nn_AskError, xb_AskError⟩ := Z.o_AskError
  obtain ⟨C_BadOrder, hc_BadOrder, O_BadOrder, nn_BadOrder, xb_BadOrder⟩ := Z.o_BadOrder
  obtain ⟨C_BadRow, hc_BadRow, O_BadRow, nn_BadRow, xb_BadRow⟩ := Z.o_BadRow
  obtain ⟨C_BadNumber, hc_BadNumber, O_BadNumber, nn_BadNumber, xb_BadNumber⟩ := Z.o_BadNumber
  obtain ⟨C_Unknown, hc_Unknown, O_Unknown, nn_Unknown, xb_Unknown⟩ := Z.o_Unknown
  exact defN (k := 4) (g := g__law_refused) F hm hb sc__law_refused rfl rfl fun cdv A outer s H E hr =>
    (ss_cons (s_asgN (pas_e (i := 1) sc__law_refused.nd rfl (Or.inl rfl) (pn_F (pf_list pad_nil))))
      (ss_cons (s_try (gh := (fun c => match c with | 0 => fun _ => none | 1 => fun _ => none | 2 => (asXO 2 "BadRow" (asgN 1 (mkFlat (dArgs [(d1 (isXF ["BadRow"] ["BadRow"]) (dVar 2)), (d1 (isXF [] ["BadRow"]) (dVar 2)), (d1 (isXF [] ["BadRow"]) (dVar 2)), (d1 (isXF [] ["BadRow"]) (dVar 2))])))) | 3 => fun _ => none | 4 => fun _ => none | _ + 5 => fun _ => none)) rfl rfl (fun pn xe RX' hW => (ss_one (s_exprX (px_call G_row_asked (hr.mono (by decide)) rfl hW (pad_cons (pd_v 0 (pv 0)) pad_nil))))) (fun c => match c with | 0 => ph_never (fun _ => rfl) | 1 => ph_never (fun _ => rfl) | 2 => (by rw [hc_BadRow]; exact ph_asS (i := 2) nn_BadRow xb_BadRow rfl O_AskError.bound (by have z := Z.e_BadRow_AskError _ hc_AskError; rw [hc_BadRow] at z; exact z) sc__law_refused.nd rfl rfl (fun _ => (ss_one (s_asgN (pas_e (i := 1) sc__law_refused.nd rfl (Or.inl rfl) (pn_F (pf_list (pad_cons (pd_isXr rfl O_BadRow.bound (Z.k_BadRow _ hc_BadRow) rfl T.b_isinstance (pd_v 2 (pv 2))) (pad_cons (pd_isXr rfl O_Unknown.bound (Z.k_Unknown _ hc_Unknown) rfl T.b_isinstance (pd_v 2 (pv 2))) (pad_cons (pd_isXr rfl O_BadNumber.bound (Z.k_BadNumber _ hc_BadNumber) rfl T.b_isinstance (pd_v 2 (pv 2))) (pad_cons (pd_isXr rfl O_BadOrder.bound (Z.k_BadOrder _ hc_BadOrder) rfl T.b_isinstance (pd_v 2 (pv 2))) pad_nil))))))))))) | 3 => ph_never (fun _ => rfl) | 4 => ph_never (fun _ => rfl) | _ + 5 => ph_never (fun _ => rfl)))
      (ss_one (s_retI (pd_eq hr.units (pd_v 1 (pv 1)) (pd_F (pf_list (pad_cons pd_bl (pad_cons pd_bl (pad_cons pd_bl (pad_cons pd_bl pad_nil)))))))))))
theorem sc_law : FnScope N_law P_law (defScope s_law) := ⟨rfl, rfl, rfl, by decide +kernel, rfl, by decide +kernel, by decide +kernel⟩
theorem ok_law {f : Addr} {fd : FuncData} (F : Fun K "law" "law" s_law f fd) (T : Txt mg) (Z : Cls K mg base cl) (G_row_asked : DefX P w K mg base 4 "row_asked" (spX K cl m_row_asked)) (G__law_whole : DefOk P w K mg base 1 "_law_whole" (spN K m__law_whole)) (G__law_row : DefOk P w K mg base 2 "_law_row" (spN K m__law_row)) (G__law_due : DefOk P w K mg base 2 "_law_due" (spN K m__law_due)) (G__law_refused : DefOk P w K mg base 5 "_law_refused" (spN K m__law_refused)) : FnOk P w K mg base CX0 6 f fd P_law (spN K m_law) := 
  fnN (k := 5) (g := g_law) F sc_law rfl rfl fun cdv A outer s H E hr =>
    (ss_cons (s_for PassesOwn.never rfl (pi_seqD (pd_F (pf_catS (pd_v 0 (pv 0)) (pd_F (pf_list (pad_cons pd_int pad_nil)))))) (pg_name (i := 1) sc_law.nd rfl (Or.inl rfl)) (ss_cons (s_asgI (pas_e (i := 2) sc_law.nd rfl (Or.inl rfl) (pd_N (pn_callN G__law_row (hr.mono (by decide)) rfl (pad_cons (pd_mod (pd_v 1 (pv 1)) (pd_pow pd_int pd_int)) pad_nil)))))
      (ss_cons (s_asgI (pas_e (i := 3) sc_law.nd rfl (Or.inl rfl) (pd_N (pn_callN G__law_due (hr.mono (by decide)) rfl (pad_cons (pd_v 2 (pv 2)) pad_nil)))))
      (ss_one (s_if (pt_isNone (pd_v 3 (pv 3))) (ss_one (s_if (pt_notD (pt_truthD (pd_N (pn_callN G__law_refused (hr.mono (by decide)) rfl (pad_cons (pd_v 2 (pv 2)) pad_nil))))) (ss_one (s_retI pd_bl)) ss_nil)) (ss_cons (s_asgS (pas_e (i := 4) sc_law.nd rfl (Or.inl rfl) (pd_N (pn_callX G_row_asked (hr.mono (by decide)) rfl (pad_cons (pd_v 2 (pv 2)) pad_nil)))))
      (ss_cons (s_if (PW.pt (pw_orD (pt_notD (pt_truthD (pd_isTup rfl T.b_tuple rfl T.b_isinstance (pd_v 4 (pv 4))))) (pw_or1D (pt_ne hr.units (pd_v 4 (pv 4)) (pd_v 3 (pv 3)))))) (ss_one (s_retI pd_bl)) ss_nil)
      (ss_one (s_if (PW.pt (pw_andD (pt_in hr.units (pd_ix (pd_v 3 (pv 3)) pd_int) (pd_F (pf_litS (ts := ["vote", "out", "raise"]) rfl rfl))) (pw_and1D (pt_notD (pt_truthD (pd_N (pn_callN G__law_whole (hr.mono (by decide)) rfl (pad_cons (pd_ix (pd_v 4 (pv 4)) pd_int) pad_nil)))))))) (ss_one (s_retI pd_bl)) ss_nil)))))))))
      (ss_one (s_retI pd_bl)))
end
theorem all_mk {l : PySem.W.OpenLaw} {w : World} {K : PySem.W.Frag} {h : Heap} {mg : Str → Option Value} {fa : Addr} (X : K.In h) (G : h.Ns mainGlobals mg) (hfa : mg "law" = some (.ref fa))
    {f_is_name f_number_of f_is_number f_row_asked f_first_as f_kind_of f_name_of f__law_whole f__law_word f__law_shape f__law_fitting f__law_row f__law_is f__law_due f__law_refused f_law : Addr} {od_is_name an_is_name : Option Addr} {sl_is_name : Array (Option Value)} {oc_is_name kV_is_name dc_is_name pm_is_name cd_is_name ct_is_name : Value} {od_number_of an_number_of : Option Addr} {sl_number_of : Array (Option Value)} {oc_number_of kV_number_of dc_number_of pm_number_of cd_number_of ct_number_of : Value} {od_is_number an_is_number : Option Addr} {sl_is_number : Array (Option Value)} {oc_is_number kV_is_number dc_is_number pm_is_number cd_is_number ct_is_number : Value} {od_row_asked an_row_asked : Option Addr} {sl_row_asked : Array (Option Value)} {oc_row_asked kV_row_asked dc_row_asked pm_row_asked cd_row_asked ct_row_asked : Value} {od_first_as an_first_as : Option Addr} {sl_first_as : Array (Option Value)} {oc_first_as kV_first_as dc_first_as pm_first_as cd_first_as ct_first_as : Value} {od_kind_of an_kind_of : Option Addr} {sl_kind_of : Array (Option Value)} {oc_kind_of kV_kind_of dc_kind_of pm_kind_of cd_kind_of ct_kind_of : Value} {od_name_of an_name_of : Option Addr} {sl_name_of : Array (Option Value)} {oc_name_of kV_name_of dc_name_of pm_name_of cd_name_of ct_name_of : Value} {od__law_whole an__law_whole : Option Addr} {sl__law_whole : Array (Option Value)} {oc__law_whole kV__law_whole dc__law_whole pm__law_whole cd__law_whole ct__law_whole : Value} {od__law_word an__law_word : Option Addr} {sl__law_word : Array (Option Value)} {oc__law_word kV__law_word dc__law_word pm__law_word cd__law_word ct__law_word : Value} {od__law_shape an__law_shape : Option Addr} {sl__law_shape : Array (Option Value)} {oc__law_shape kV__law_shape dc__law_shape pm__law_shape cd__law_shape ct__law_shape : Value} {od__law_fitting an__law_fitting : Option Addr} {sl__law_fitting : Array (Option Value)} {oc__law_fitting kV__law_fitting dc__law_fitting pm__law_fitting cd__law_fitting ct__law_fitting : Value} {od__law_row an__law_row : Option Addr} {sl__law_row : Array (Option Value)} {oc__law_row kV__law_row dc__law_row pm__law_row cd__law_row ct__law_row : Value} {od__law_is an__law_is : Option Addr} {sl__law_is : Array (Option Value)} {oc__law_is kV__law_is dc__law_is pm__law_is cd__law_is ct__law_is : Value} {od__law_due an__law_due : Option Addr} {sl__law_due : Array (Option Value)} {oc__law_due kV__law_due dc__law_due pm__law_due cd__law_due ct__law_due : Value} {od__law_refused an__law_refused : Option Addr} {sl__law_refused : Array (Option Value)} {oc__law_refused kV__law_refused dc__law_refused pm__law_refused cd__law_refused ct__law_refused : Value} {od_law an_law : Option Addr} {sl_law : Array (Option Value)} {oc_law kV_law dc_law pm_law cd_law ct_law : Value} {C_AskError C_BadOrder C_BadRow C_BadNumber C_Unknown : Addr}
    (a_is_name : PySem.W.nsIn K mainGlobals "is_name" = some (some (.ref f_is_name))) (l_is_name : K.lookup f_is_name = some ⟨oc_is_name, od_is_name, .func (PySem.W.fnOf "is_name" "is_name" (defArgs s_is_name) (defBody s_is_name) (defScope s_is_name) .none kV_is_name dc_is_name pm_is_name an_is_name cd_is_name ct_is_name), sl_is_name⟩) (c_is_name : PySem.W.codeIn K cd_is_name "is_name" = true) (k_is_name : PySem.W.keepIn K (.ref f_is_name) = true)
    (a_number_of : PySem.W.nsIn K mainGlobals "number_of" = some (some (.ref f_number_of))) (l_number_of : K.lookup f_number_of = some ⟨oc_number_of, od_number_of, .func (PySem.W.fnOf "number_of" "number_of" (defArgs s_number_of) (defBody s_number_of) (defScope s_number_of) .none kV_number_of dc_number_of pm_number_of an_number_of cd_number_of ct_number_of), sl_number_of⟩) (c_number_of : PySem.W.codeIn K cd_number_of "number_of" = true) (k_number_of : PySem.W.keepIn K (.ref f_number_of) = true)
    (a_is_number : PySem.W.nsIn K mainGlobals "is_number" = some (some (.ref f_is_number))) (l_is_number : K.lookup f_is_number = some ⟨oc_is_number, od_is_number, .func (PySem.W.fnOf "is_number" "is_number" (defArgs s_is_number) (defBody s_is_number) (defScope s_is_number) .none kV_is_number dc_is_number pm_is_number an_is_number cd_is_number ct_is_number), sl_is_number⟩) (c_is_number : PySem.W.codeIn K cd_is_number "is_number" = true) (k_is_number : PySem.W.keepIn K (.ref f_is_number) = true)
    (a_row_asked : PySem.W.nsIn K mainGlobals "row_asked" = some (some (.ref f_row_asked))) (l_row_asked : K.lookup f_row_asked = some ⟨oc_row_asked, od_row_asked, .func (PySem.W.fnOf "row_asked" "row_asked" (defArgs s_row_asked) (defBody s_row_asked) (defScope s_row_asked) .none kV_row_asked dc_row_asked pm_row_asked an_row_asked cd_row_asked ct_row_asked), sl_row_asked⟩) (c_row_asked : PySem.W.codeIn K cd_row_asked "row_asked" = true) (k_row_asked : PySem.W.keepIn K (.ref f_row_asked) = true)
    (a_first_as : PySem.W.nsIn K mainGlobals "first_as" = some (some (.ref f_first_as))) (l_first_as : K.lookup f_first_as = some ⟨oc_first_as, od_first_as, .func (PySem.W.fnOf "first_as" "first_as" (defArgs s_first_as) (defBody s_first_as) (defScope s_first_as) .none kV_first_as dc_first_as pm_first_as an_first_as cd_first_as ct_first_as), sl_first_as⟩) (c_first_as : PySem.W.codeIn K cd_first_as "first_as" = true) (k_first_as : PySem.W.keepIn K (.ref f_first_as) = true)
    (a_kind_of : PySem.W.nsIn K mainGlobals "kind_of" = some (some (.ref f_kind_of))) (l_kind_of : K.lookup f_kind_of = some ⟨oc_kind_of, od_kind_of, .func (PySem.W.fnOf "kind_of" "kind_of" (defArgs s_kind_of) (defBody s_kind_of) (defScope s_kind_of) .none kV_kind_of dc_kind_of pm_kind_of an_kind_of cd_kind_of ct_kind_of), sl_kind_of⟩) (c_kind_of : PySem.W.codeIn K cd_kind_of "kind_of" = true) (k_kind_of : PySem.W.keepIn K (.ref f_kind_of) = true)
    (a_name_of : PySem.W.nsIn K mainGlobals "name_of" = some (some (.ref f_name_of))) (l_name_of : K.lookup f_name_of = some ⟨oc_name_of, od_name_of, .func (PySem.W.fnOf "name_of" "name_of" (defArgs s_name_of) (defBody s_name_of) (defScope s_name_of) .none kV_name_of dc_name_of pm_name_of an_name_of cd_name_of ct_name_of), sl_name_of⟩) (c_name_of : PySem.W.codeIn K cd_name_of "name_of" = true) (k_name_of : PySem.W.keepIn K (.ref f_name_of) = true)
    (a__law_whole : PySem.W.nsIn K mainGlobals "_law_whole" = some (some (.ref f__law_whole))) (l__law_whole : K.lookup f__law_whole = some ⟨oc__law_whole, od__law_whole, .func (PySem.W.fnOf "_law_whole" "_law_whole" (defArgs s__law_whole) (defBody s__law_whole) (defScope s__law_whole) .none kV__law_whole dc__law_whole pm__law_whole an__law_whole cd__law_whole ct__law_whole), sl__law_whole⟩) (c__law_whole : PySem.W.codeIn K cd__law_whole "_law_whole" = true) (k__law_whole : PySem.W.keepIn K (.ref f__law_whole) = true)
    (a__law_word : PySem.W.nsIn K mainGlobals "_law_word" = some (some (.ref f__law_word))) (l__law_word : K.lookup f__law_word = some ⟨oc__law_word, od__law_word, .func (PySem.W.fnOf "_law_word" "_law_word" (defArgs s__law_word) (defBody s__law_word) (defScope s__law_word) .none kV__law_word dc__law_word pm__law_word an__law_word cd__law_word ct__law_word), sl__law_word⟩) (c__law_word : PySem.W.codeIn K cd__law_word "_law_word" = true) (k__law_word : PySem.W.keepIn K (.ref f__law_word) = true)
    (a__law_shape : PySem.W.nsIn K mainGlobals "_law_shape" = some (some (.ref f__law_shape))) (l__law_shape : K.lookup f__law_shape = some ⟨oc__law_shape, od__law_shape, .func (PySem.W.fnOf "_law_shape" "_law_shape" (defArgs s__law_shape) (defBody s__law_shape) (defScope s__law_shape) .none kV__law_shape dc__law_shape pm__law_shape an__law_shape cd__law_shape ct__law_shape), sl__law_shape⟩) (c__law_shape : PySem.W.codeIn K cd__law_shape "_law_shape" = true) (k__law_shape : PySem.W.keepIn K (.ref f__law_shape) = true)
    (a__law_fitting : PySem.W.nsIn K mainGlobals "_law_fitting" = some (some (.ref f__law_fitting))) (l__law_fitting : K.lookup f__law_fitting = some ⟨oc__law_fitting, od__law_fitting, .func (PySem.W.fnOf "_law_fitting" "_law_fitting" (defArgs s__law_fitting) (defBody s__law_fitting) (defScope s__law_fitting) .none kV__law_fitting dc__law_fitting pm__law_fitting an__law_fitting cd__law_fitting ct__law_fitting), sl__law_fitting⟩) (c__law_fitting : PySem.W.codeIn K cd__law_fitting "_law_fitting" = true) (k__law_fitting : PySem.W.keepIn K (.ref f__law_fitting) = true)
    (a__law_row : PySem.W.nsIn K mainGlobals "_law_row" = some (some (.ref f__law_row))) (l__law_row : K.lookup f__law_row = some ⟨oc__law_row, od__law_row, .func (PySem.W.fnOf "_law_row" "_law_row" (defArgs s__law_row) (defBody s__law_row) (defScope s__law_row) .none kV__law_row dc__law_row pm__law_row an__law_row cd__law_row ct__law_row), sl__law_row⟩) (c__law_row : PySem.W.codeIn K cd__law_row "_law_row" = true) (k__law_row : PySem.W.keepIn K (.ref f__law_row) = true)
    (a__law_is : PySem.W.nsIn K mainGlobals "_law_is" = some (some (.ref f__law_is))) (l__law_is : K.lookup f__law_is = some ⟨oc__law_is, od__law_is, .func (PySem.W.fnOf "_law_is" "_law_is" (defArgs s__law_is) (defBody s__law_is) (defScope s__law_is) .none kV__law_is dc__law_is pm__law_is an__law_is cd__law_is ct__law_is), sl__law_is⟩) (c__law_is : PySem.W.codeIn K cd__law_is "_law_is" = true) (k__law_is : PySem.W.keepIn K (.ref f__law_is) = true)
    (a__law_due : PySem.W.nsIn K mainGlobals "_law_due" = some (some (.ref f__law_due))) (l__law_due : K.lookup f__law_due = some ⟨oc__law_due, od__law_due, .func (PySem.W.fnOf "_law_due" "_law_due" (defArgs s__law_due) (defBody s__law_due) (defScope s__law_due) .none kV__law_due dc__law_due pm__law_due an__law_due cd__law_due ct__law_due), sl__law_due⟩) (c__law_due : PySem.W.codeIn K cd__law_due "_law_due" = true) (k__law_due : PySem.W.keepIn K (.ref f__law_due) = true)
    (a__law_refused : PySem.W.nsIn K mainGlobals "_law_refused" = some (some (.ref f__law_refused))) (l__law_refused : K.lookup f__law_refused = some ⟨oc__law_refused, od__law_refused, .func (PySem.W.fnOf "_law_refused" "_law_refused" (defArgs s__law_refused) (defBody s__law_refused) (defScope s__law_refused) .none kV__law_refused dc__law_refused pm__law_refused an__law_refused cd__law_refused ct__law_refused), sl__law_refused⟩) (c__law_refused : PySem.W.codeIn K cd__law_refused "_law_refused" = true) (k__law_refused : PySem.W.keepIn K (.ref f__law_refused) = true)
    (a_law : PySem.W.nsIn K mainGlobals "law" = some (some (.ref f_law))) (l_law : K.lookup f_law = some ⟨oc_law, od_law, .func (PySem.W.fnOf "law" "law" (defArgs s_law) (defBody s_law) (defScope s_law) .none kV_law dc_law pm_law an_law cd_law ct_law), sl_law⟩) (c_law : PySem.W.codeIn K cd_law "law" = true) (k_law : PySem.W.keepIn K (.ref f_law) = true)
    (x_AskError : PySem.W.nsIn K mainGlobals "AskError" = some (some (.ref C_AskError))) (q_AskError : PySem.W.excIn K C_AskError bmVE "ValueError.__new__" = true)
    (x_BadOrder : PySem.W.nsIn K mainGlobals "BadOrder" = some (some (.ref C_BadOrder))) (q_BadOrder : PySem.W.excIn K C_BadOrder bmVE "ValueError.__new__" = true)
    (x_BadRow : PySem.W.nsIn K mainGlobals "BadRow" = some (some (.ref C_BadRow))) (q_BadRow : PySem.W.excIn K C_BadRow bmVE "ValueError.__new__" = true)
    (x_BadNumber : PySem.W.nsIn K mainGlobals "BadNumber" = some (some (.ref C_BadNumber))) (q_BadNumber : PySem.W.excIn K C_BadNumber bmVE "ValueError.__new__" = true)
    (x_Unknown : PySem.W.nsIn K mainGlobals "Unknown" = some (some (.ref C_Unknown))) (q_Unknown : PySem.W.excIn K C_Unknown bmVE "ValueError.__new__" = true)
    (e_BadRow_AskError : PySem.W.exmOne K (.ref C_BadRow) (.ref C_AskError) = some true)
    (xb_AskError : xclsB K C_AskError = true) (xb_BadOrder : xclsB K C_BadOrder = true) (xb_BadRow : xclsB K C_BadRow = true) (xb_BadNumber : xclsB K C_BadNumber = true) (xb_Unknown : xclsB K C_Unknown = true)
    (t_BadRow_BadRow : PySem.W.kitOne K (.ref C_BadRow) (.ref C_BadRow) = some true) (t_BadRow_Unknown : PySem.W.kitOne K (.ref C_BadRow) (.ref C_Unknown) = some false) (t_BadRow_BadNumber : PySem.W.kitOne K (.ref C_BadRow) (.ref C_BadNumber) = some false) (t_BadRow_BadOrder : PySem.W.kitOne K (.ref C_BadRow) (.ref C_BadOrder) = some false)
    (wd_WANTED : WantK K w "WANTED" want_WANTED)
    (z_len : PySem.W.nsIn K mainGlobals "len" = some none) (z_all : PySem.W.nsIn K mainGlobals "all" = some none) (z_int : PySem.W.nsIn K mainGlobals "int" = some none) (z_tuple : PySem.W.nsIn K mainGlobals "tuple" = some none) (z_isinstance : PySem.W.nsIn K mainGlobals "isinstance" = some none) (z_bool : PySem.W.nsIn K mainGlobals "bool" = some none) (z_str : PySem.W.nsIn K mainGlobals "str" = some none) (z_range : PySem.W.nsIn K mainGlobals "range" = some none) :
    ∃ fd : FuncData, (∀ (s : Shared) (v : Value), BindsTo s fd ⟨[v], []⟩ [("script", v)]) ∧ ∀ base : Heap, K.In base → base.Ns mainGlobals mg → FnOk l.prog w K mg base CX0 6 fa fd ["script"] (spLaw K m_law) := by
  have e := hfa.symm.trans (PySem.W.mg_of X G a_law)
  cases e
  have T : Txt mg := ⟨PySem.W.mg_none_of X G z_len, PySem.W.mg_none_of X G z_all, PySem.W.mg_none_of X G z_int, PySem.W.mg_none_of X G z_tuple, PySem.W.mg_none_of X G z_isinstance, PySem.W.mg_none_of X G z_bool, PySem.W.mg_none_of X G z_str, PySem.W.mg_none_of X G z_range⟩
  have F_is_name := fun_mk (st := s_is_name) l_is_name c_is_name k_is_name
  have b_is_name := F_is_name.binds (ps := P_is_name) fun _ _ _ _ _ _ us hl => match us, hl with | [_], _ => rfl
  have F_number_of := fun_mk (st := s_number_of) l_number_of c_number_of k_number_of
  have b_number_of := F_number_of.binds (ps := P_number_of) fun _ _ _ _ _ _ us hl => match us, hl with | [_], _ => rfl
  have F_is_number := fun_mk (st := s_is_number) l_is_number c_is_number k_is_number
  have b_is_number := F_is_number.binds (ps := P_is_number) fun _ _ _ _ _ _ us hl => match us, hl with | [_], _ => rfl
  have F_row_asked := fun_mk (st := s_row_asked) l_row_asked c_row_asked k_row_asked
  have b_row_asked := F_row_asked.binds (ps := P_row_asked) fun _ _ _ _ _ _ us hl => match us, hl with | [_], _ => rfl
  have F_first_as := fun_mk (st := s_first_as) l_first_as c_first_as k_first_as
  have b_first_as := F_first_as.binds (ps := P_first_as) fun _ _ _ _ _ _ us hl => match us, hl with | [_, _], _ => rfl
  have F_kind_of := fun_mk (st := s_kind_of) l_kind_of c_kind_of k_kind_of
  have b_kind_of := F_kind_of.binds (ps := P_kind_of) fun _ _ _ _ _ _ us hl => match us, hl with | [_], _ => rfl
  have F_name_of := fun_mk (st := s_name_of) l_name_of c_name_of k_name_of
  have b_name_of := F_name_of.binds (ps := P_name_of) fun _ _ _ _ _ _ us hl => match us, hl with | [_], _ => rfl
  have F__law_whole := fun_mk (st := s__law_whole) l__law_whole c__law_whole k__law_whole
  have b__law_whole := F__law_whole.binds (ps := P__law_whole) fun _ _ _ _ _ _ us hl => match us, hl with | [_], _ => rfl
  have F__law_word := fun_mk (st := s__law_word) l__law_word c__law_word k__law_word
  have b__law_word := F__law_word.binds (ps := P__law_word) fun _ _ _ _ _ _ us hl => match us, hl with | [_], _ => rfl
  have F__law_shape := fun_mk (st := s__law_shape) l__law_shape c__law_shape k__law_shape
  have b__law_shape := F__law_shape.binds (ps := P__law_shape) fun _ _ _ _ _ _ us hl => match us, hl with | [_, _], _ => rfl
  have F__law_fitting := fun_mk (st := s__law_fitting) l__law_fitting c__law_fitting k__law_fitting
  have b__law_fitting := F__law_fitting.binds (ps := P__law_fitting) fun _ _ _ _ _ _ us hl => match us, hl with | [_, _], _ => rfl
  have F__law_row := fun_mk (st := s__law_row) l__law_row c__law_row k__law_row
  have b__law_row := F__law_row.binds (ps := P__law_row) fun _ _ _ _ _ _ us hl => match us, hl with | [_], _ => rfl
  have F__law_is := fun_mk (st := s__law_is) l__law_is c__law_is k__law_is
  have b__law_is := F__law_is.binds (ps := P__law_is) fun _ _ _ _ _ _ us hl => match us, hl with | [_, _], _ => rfl
  have F__law_due := fun_mk (st := s__law_due) l__law_due c__law_due k__law_due
  have b__law_due := F__law_due.binds (ps := P__law_due) fun _ _ _ _ _ _ us hl => match us, hl with | [_], _ => rfl
  have F__law_refused := fun_mk (st := s__law_refused) l__law_refused c__law_refused k__law_refused
  have b__law_refused := F__law_refused.binds (ps := P__law_refused) fun _ _ _ _ _ _ us hl => match us, hl with | [_], _ => rfl
  have F_law := fun_mk (st := s_law) l_law c_law k_law
  have b_law := F_law.binds (ps := P_law) fun _ _ _ _ _ _ us hl => match us, hl with | [_], _ => rfl
  refine ⟨PySem.W.fnOf "law" "law" (defArgs s_law) (defBody s_law) (defScope s_law) .none kV_law dc_law pm_law an_law cd_law ct_law, fun s v => .of_eq rfl, fun base KB GB => ?_⟩
  let cl : Nat → Value := fun n => match n with | 0 => .ref C_AskError | 1 => .ref C_BadOrder | 2 => .ref C_BadRow | 3 => .ref C_BadNumber | 4 => .ref C_Unknown | _ => .none
  have Z : Cls K mg base cl := ⟨⟨C_AskError, rfl, own_mk KB GB x_AskError q_AskError, x_AskError, xb_AskError⟩, ⟨C_BadOrder, rfl, own_mk KB GB x_BadOrder q_BadOrder, x_BadOrder, xb_BadOrder⟩, ⟨C_BadRow, rfl, own_mk KB GB x_BadRow q_BadRow, x_BadRow, xb_BadRow⟩, ⟨C_BadNumber, rfl, own_mk KB GB x_BadNumber q_BadNumber, x_BadNumber, xb_BadNumber⟩, ⟨C_Unknown, rfl, own_mk KB GB x_Unknown q_Unknown, x_Unknown, xb_Unknown⟩, fun C h => by cases h; exact e_BadRow_AskError, fun D hD => by cases hD; exact k_one (fun C hn => by cases hn.symm.trans x_BadRow; exact t_BadRow_BadRow) (k_nil), fun D hD => by cases hD; exact k_one (fun C hn => by cases hn.symm.trans x_BadRow; exact t_BadRow_Unknown) (k_nil), fun D hD => by cases hD; exact k_one (fun C hn => by cases hn.symm.trans x_BadRow; exact t_BadRow_BadNumber) (k_nil), fun D hD => by cases hD; exact k_one (fun C hn => by cases hn.symm.trans x_BadRow; exact t_BadRow_BadOrder) (k_nil)⟩
  have G_is_name : DefOk l.prog w K mg base 1 "is_name" (spN K m_is_name) := ok_is_name F_is_name (PySem.W.mg_of X G a_is_name) b_is_name T
  have G_is_number : DefOk l.prog w K mg base 1 "is_number" (spN K m_is_number) := ok_is_number F_is_number (PySem.W.mg_of X G a_is_number) b_is_number T
  have G_number_of : DefX l.prog w K mg base 2 "number_of" (spX K cl m_number_of) := ok_number_of F_number_of (PySem.W.mg_of X G a_number_of) b_number_of T Z G_is_number
  have G_kind_of : DefX l.prog w K mg base 1 "kind_of" (spX K cl m_kind_of) := ok_kind_of F_kind_of (PySem.W.mg_of X G a_kind_of) b_kind_of T Z
  have G_name_of : DefX l.prog w K mg base 2 "name_of" (spX K cl m_name_of) := ok_name_of F_name_of (PySem.W.mg_of X G a_name_of) b_name_of T Z G_is_name
  have G_first_as : DefX l.prog w K mg base 3 "first_as" (spX K cl m_first_as) := ok_first_as F_first_as (PySem.W.mg_of X G a_first_as) b_first_as T Z G_number_of G_kind_of G_name_of
  have G_row_asked : DefX l.prog w K mg base 4 "row_asked" (spX K cl m_row_asked) := ok_row_asked F_row_asked (PySem.W.mg_of X G a_row_asked) b_row_asked T Z (want_of X G wd_WANTED) G_name_of G_first_as
  have G__law_whole : DefOk l.prog w K mg base 1 "_law_whole" (spN K m__law_whole) := ok__law_whole F__law_whole (PySem.W.mg_of X G a__law_whole) b__law_whole T
  have G__law_word : DefOk l.prog w K mg base 1 "_law_word" (spN K m__law_word) := ok__law_word F__law_word (PySem.W.mg_of X G a__law_word) b__law_word T
  have G__law_shape : DefOk l.prog w K mg base 1 "_law_shape" (spN K m__law_shape) := ok__law_shape F__law_shape (PySem.W.mg_of X G a__law_shape) b__law_shape T
  have G__law_fitting : DefOk l.prog w K mg base 1 "_law_fitting" (spN K m__law_fitting) := ok__law_fitting F__law_fitting (PySem.W.mg_of X G a__law_fitting) b__law_fitting T
  have G__law_row : DefOk l.prog w K mg base 2 "_law_row" (spN K m__law_row) := ok__law_row F__law_row (PySem.W.mg_of X G a__law_row) b__law_row T G__law_word G__law_shape G__law_fitting
  have G__law_is : DefOk l.prog w K mg base 1 "_law_is" (spN K m__law_is) := ok__law_is F__law_is (PySem.W.mg_of X G a__law_is) b__law_is T
  have G__law_due : DefOk l.prog w K mg base 2 "_law_due" (spN K m__law_due) := ok__law_due F__law_due (PySem.W.mg_of X G a__law_due) b__law_due T G__law_shape G__law_is
  have G__law_refused : DefOk l.prog w K mg base 5 "_law_refused" (spN K m__law_refused) := ok__law_refused F__law_refused (PySem.W.mg_of X G a__law_refused) b__law_refused T Z G_row_asked
  exact law_of (ok_law F_law T Z G_row_asked G__law_whole G__law_row G__law_due G__law_refused)
theorem walk {l : PySem.W.OpenLaw} {q : Program} {loose : List Str} {XP : (Str → Option Value) → Heap → Prop} {YP : World → Heap → Prop} {d : DefRec} {K : Params → PySem.W.Frag} (hn : l.most = some 63) (hdf : d.params.defaults = [])
    (hlaw : ∀ ns : List Int, ns.length ≤ 63 → m_law [.scr ns] = some (.bl true)) (hY : ∀ (w : World) (h : Heap), YP w h → (K w.params).In h)
    (F : ∀ (w : World) (mg : Str → Option Value) (fa : Addr) (h : Heap), (K w.params).In h → h.Ns mainGlobals mg → mg d.name = some (.ref fa) →
      ∃ fd : FuncData, (∀ (s : Shared) (u : Value), BindsTo s fd ⟨[u], []⟩ [("script", u)]) ∧ ∀ base : Heap, (K w.params).In base → base.Ns mainGlobals mg → FnOk l.prog w (K w.params) mg base CX0 6 fa fd ["script"] (spLaw (K w.params) m_law)) :
    PySem.W.WalkO q loose XP YP l.row.toRowW d [] (fun f vs => PySem.call f vs) :=
  L2.walk_of (n := 63) (k := 6) (x := "script") (CX := fun _ => CX0) (sp := fun w => spLaw (K w.params) m_law) hn (by decide) hdf ⟨rfl, by decide, by decide⟩ hY F (fun _ _ a ns hl hO hS => ⟨a, ns, rfl, only_sqF hO hS, hlaw ns hl, fun _ => rfl⟩) fun _ _ _ _ _ z => z
end Prg

namespace Prg
open PySem L2
local macro_rules | `(tactic| simp! only [$xs,*] $[$loc]?) => `(tactic| simp only [ev_var0, ev_varS, ev_C, ev_d2, ev_d1, ev_test, ev_truth, ev_andT, ev_orT, ev_notT, ev_and, ev_or, ev_if, ev_args0, ev_argsS, ev_call, ev_callL, ev_mkL, ev_mkT, ev_mkFlat, ev_mkImm, ev_is, ev_seq, ev_rng1, ev_rng2, ev_comp, ev_part, ev_nopart, ev_cut, ev_seqO, ev_skip, ev_bk, ev_ct, ev_asgS, ev_asgI, ev_asgN, ev_retI, ev_retN, ev_retS, ev_retO, ev_ifO, ev_forO, ev_frz, ev_st0, ev_st1, ev_m0, ev_m1, ev_asgM, ev_app0N, ev_ins0N, ev_small, ev_comp2, ev_enum, ev_chain, ev_din', ev_dnin, ev_dput, ev_exprN, ev_cat, ev_revL, ev_clr0, ev_ext0N, ev_rng3, ev_isN, ev_notN, ev_mov, ev_revS, ev_chkIf, ev_chkSeq, ev_forC, ev_raise, ev_callX, ev_callV, ev_callM, ev_forO2, ev_disp1, ev_rngN, ev_rep, ev_step, ev_ixX, ev_retX, ev_exprX, ev_asgX, ev_try, ev_asX, ev_ret2, ev_ret3, ev_forI, ev_catS, ev_sortS, ev_cutT, ev_iv1, ev_iv2, ev_ifNX, eo_xnT, eo_xnF, eo_xnE, ev_forX, eo_fxL, eo_fxE, ev_callM2, eo_cM2, ev_ret1, eo_r1, ev_appO, ev_ext0D, ev_st0N, eo_2, eo_and, eo_andt, eo_andf, eo_or, eo_ort, eo_orf, eo_andT, eo_andTt, eo_andTf, eo_orT, eo_orTt, eo_orTf, eo_itet, eo_itef, eo_cons, eo_nx, eo_rt, eo_bk, eo_ct, eo_set, eo_rtO, eo_for, eo_immI, eo_immB, eo_immN, eo_immS, eo_immR, eo_part, eo_cutL, eo_cutR, eo_put, eo_in, eo_ex, eo_revL, eo_clr, eo_mov, eo_ckf, eo_csn, eo_raise, eo_ixXe, eo_for2, eo_val, eo_xrV, eo_xrE, eo_xeV, eo_xeE, eo_xaV, eo_xaE, eo_bex, eo_trN, eo_trR, eo_trE, eo_unN, eo_unR, eo_r2, eo_r3, eo_forI, ea_at0, ea_at1, ea_at2, ea_mkD1, ea_ixLL, ea_add, ea_sub, ea_lt, ea_le, ea_gt, ea_ge, ea_eqI, ea_neI, ea_eqB, ea_neB, ea_neg, ea_not, ea_truB, ea_truI, ea_truL, ea_truN, ea_seqL, ea_seqT, ea_seqR, ea_lenL, ea_lenT, ea_lenR, ea_listL, ea_listT, ea_listR, ea_tupL, ea_tupT, ea_ixL, ea_ixT, ea_ixR, ea_isBB, ea_isBI, ea_isII, ea_isIB, ea_isLL, ea_isLT, ea_isTT, ea_isLN, ea_asB, ea_asI, ea_asL, ea_intI, ea_intB, ea_revT, ea_max, ea_isB, ea_notB, ea_revF, es_own0, es_own1, es_ownS, es_all0, es_allS, es_sh0, es_shS, es_v1, es_v2, es_val1, es_val2, es_val3, es_shO, es_drop0, es_dropS, es_dropSh, es_dropOw, es_dropN, es_ow0, es_owS, es_frz0, es_frzS, eb_bs, eb_bn, eb_ms, eb_mn, eb_s0, eb_sS, eb_mc, eb_mnil, eb_rS, eb_r0, eb_ca, eb_na, $xs,*] $[$loc]?)
local macro_rules | `(tactic| simp_all! only [$xs,*]) => `(tactic| simp only [ev_var0, ev_varS, ev_C, ev_d2, ev_d1, ev_test, ev_truth, ev_andT, ev_orT, ev_notT, ev_and, ev_or, ev_if, ev_args0, ev_argsS, ev_call, ev_callL, ev_mkL, ev_mkT, ev_mkFlat, ev_mkImm, ev_is, ev_seq, ev_rng1, ev_rng2, ev_comp, ev_part, ev_nopart, ev_cut, ev_seqO, ev_skip, ev_bk, ev_ct, ev_asgS, ev_asgI, ev_asgN, ev_retI, ev_retN, ev_retS, ev_retO, ev_ifO, ev_forO, ev_frz, ev_st0, ev_st1, ev_m0, ev_m1, ev_asgM, ev_app0N, ev_ins0N, ev_small, ev_comp2, ev_enum, ev_chain, ev_din', ev_dnin, ev_dput, ev_exprN, ev_cat, ev_revL, ev_clr0, ev_ext0N, ev_rng3, ev_isN, ev_notN, ev_mov, ev_revS, ev_chkIf, ev_chkSeq, ev_forC, ev_raise, ev_callX, ev_callV, ev_callM, ev_forO2, ev_disp1, ev_rngN, ev_rep, ev_step, ev_ixX, ev_retX, ev_exprX, ev_asgX, ev_try, ev_asX, ev_ret2, ev_ret3, ev_forI, ev_catS, ev_sortS, ev_cutT, ev_iv1, ev_iv2, ev_ifNX, eo_xnT, eo_xnF, eo_xnE, ev_forX, eo_fxL, eo_fxE, ev_callM2, eo_cM2, ev_ret1, eo_r1, ev_appO, ev_ext0D, ev_st0N, eo_2, eo_and, eo_andt, eo_andf, eo_or, eo_ort, eo_orf, eo_andT, eo_andTt, eo_andTf, eo_orT, eo_orTt, eo_orTf, eo_itet, eo_itef, eo_cons, eo_nx, eo_rt, eo_bk, eo_ct, eo_set, eo_rtO, eo_for, eo_immI, eo_immB, eo_immN, eo_immS, eo_immR, eo_part, eo_cutL, eo_cutR, eo_put, eo_in, eo_ex, eo_revL, eo_clr, eo_mov, eo_ckf, eo_csn, eo_raise, eo_ixXe, eo_for2, eo_val, eo_xrV, eo_xrE, eo_xeV, eo_xeE, eo_xaV, eo_xaE, eo_bex, eo_trN, eo_trR, eo_trE, eo_unN, eo_unR, eo_r2, eo_r3, eo_forI, ea_at0, ea_at1, ea_at2, ea_mkD1, ea_ixLL, ea_add, ea_sub, ea_lt, ea_le, ea_gt, ea_ge, ea_eqI, ea_neI, ea_eqB, ea_neB, ea_neg, ea_not, ea_truB, ea_truI, ea_truL, ea_truN, ea_seqL, ea_seqT, ea_seqR, ea_lenL, ea_lenT, ea_lenR, ea_listL, ea_listT, ea_listR, ea_tupL, ea_tupT, ea_ixL, ea_ixT, ea_ixR, ea_isBB, ea_isBI, ea_isII, ea_isIB, ea_isLL, ea_isLT, ea_isTT, ea_isLN, ea_asB, ea_asI, ea_asL, ea_intI, ea_intB, ea_revT, ea_max, ea_isB, ea_notB, ea_revF, es_own0, es_own1, es_ownS, es_all0, es_allS, es_sh0, es_shS, es_v1, es_v2, es_val1, es_val2, es_val3, es_shO, es_drop0, es_dropS, es_dropSh, es_dropOw, es_dropN, es_ow0, es_owS, es_frz0, es_frzS, eb_bs, eb_bn, eb_ms, eb_mn, eb_s0, eb_sS, eb_mc, eb_mnil, eb_rS, eb_r0, eb_ca, eb_na, Int.reduceEq, Int.reduceLT, Int.reduceLE, Int.reduceGT, Int.reduceAdd, Int.reduceSub, Int.reduceMul, Int.reduceNeg, decide_true, decide_false, Bool.or_false, Bool.false_or, Bool.or_true, Bool.true_or, Bool.and_true, Bool.true_and, Bool.and_false, Bool.false_and, Bool.not_true, Bool.not_false, $xs,*])
theorem ch_of {s : String} {c : Nat} (h : Str.ofString s = ⟨#[c]⟩) : D.str (Str.ofString s) = chS c := by rw [h]; rfl
/-! names -/
def rgB (lo hi most : Nat) (x : Str) : Bool := (decide (1 ≤ (x.length : Int)) && decide ((x.length : Int) ≤ (most : Int))) && x.cps.toList.all fun c => decide (lo ≤ c) && decide (c ≤ hi)
theorem rg_comp {x : Str} {a z : D} {lo hi : Nat} (hl : x.length ≤ 1000) (ea : a = chS lo) (ez : z = chS hi) : compX (some (x.cps.toList.map chS)) (compF dYes (dChain leS leS (dC a) (dVar 1) (dC z)) [some (.str x)]) = some ((x.cps.toList.map fun c => decide (lo ≤ c) && decide (c ≤ hi)).map bD) := by
  subst ea; subst ez
  rw [List.map_map]
  refine cx_all (enc := chS) (xs := x.cps.toList) (fun c => bD (decide (lo ≤ c) && decide (c ≤ hi))) (by rw [tx_len]; exact hl) fun c _ => ?_
  simp! only []
  exact eo_chain le_ch le_ch
theorem le_len {x : Str} {k : Int} : chO leI leI (some (.int 1)) (some (.int (x.length : Int))) (some (.int k)) = some (.bl (decide (1 ≤ (x.length : Int)) && decide ((x.length : Int) ≤ k))) := eo_chain ea_le ea_le
theorem isname_eq {x : Str} (hl : x.length ≤ 1000) : m_is_name [.str x] = some (.bl (rgB 97 122 12 x)) := by
  refine run_of rfl ?_
  have c := rg_comp (x := x) hl (a := .str "a") (z := .str "z") (lo := 97) (hi := 122) (ch_of (by decide +kernel)) (ch_of (by decide +kernel))
  simp! only [g_is_name, len_tx (show x.length ≤ 1000000 by omega), ev_sgn, sg_eq, le_len, c, ea_all, hol_some]
  unfold rgB
  rw [List.all_map]
  rfl
theorem mem_rng {lo n : Nat} {c : Nat} : decide (c ∈ List.range' lo n) = (decide (lo ≤ c) && decide (c ≤ lo + n - 1) && decide (0 < n)) := by
  rw [Bool.eq_iff_iff]
  simp only [Bool.and_eq_true, decide_eq_true_eq, List.mem_range'_1]
  omega
/-! numbers -/
def nuB (x : Str) : Bool := rgB 48 57 31 x && (!decide (x.cps.toList[0]? = some 48) || decide (x = ⟨#[48]⟩))
theorem eq_tx {x y : Str} (hx : sgn x) (hy : sgn y) : eqD (.str x) (.str y) = some (.bl (decide (x = y))) := by
  unfold eqD
  rw [okP_of (okN_str hx) (by omega), okP_of (okN_str hy) (by omega)]
  show some (D.bl (PyData.eqv (.str x) (.str y))) = _
  congr 2
theorem ne_tx {x y : Str} (hx : sgn x) (hy : sgn y) : neD (.str x) (.str y) = some (.bl (!decide (x = y))) := by
  unfold neD
  rw [okP_of (okN_str hx) (by omega), okP_of (okN_str hy) (by omega)]
  show some (D.bl (!PyData.eqv (.str x) (.str y))) = _
  congr 3
theorem ch_inj {c d : Nat} : decide ((⟨#[c]⟩ : Str) = ⟨#[d]⟩) = decide (c = d) := by
  congr 1
  simp
theorem zero_is : Str.ofString "0" = ⟨#[48]⟩ := by decide +kernel
theorem rg_pos {lo hi most : Nat} {x : Str} (h : rgB lo hi most x = true) : 0 < x.cps.toList.length ∧ x.length ≤ most ∧ ∀ c ∈ x.cps.toList, lo ≤ c ∧ c ≤ hi := by
  unfold rgB at h
  simp only [Bool.and_eq_true, decide_eq_true_eq, List.all_eq_true] at h
  refine ⟨?_, by omega, h.2⟩
  rw [tx_len]
  omega
theorem isnum_eq {x : Str} (hl : x.length ≤ 1000) (hs : sgn x) : m_is_number [.str x] = some (.bl (nuB x)) := by
  refine run_of rfl ?_
  have c := rg_comp (x := x) hl (a := .str "0") (z := .str "9") (lo := 48) (hi := 57) (ch_of (by decide +kernel)) (ch_of (by decide +kernel))
  simp! only [g_is_number, len_tx (show x.length ≤ 1000000 by omega), ev_sgn, sg_eq, le_len, c, ea_all, hol_some]
  have eb : (!(decide (1 ≤ (x.length : Int)) && decide ((x.length : Int) ≤ 31)) || !(List.map (fun c => decide (48 ≤ c) && decide (c ≤ 57)) x.cps.toList).all fun b => b) = !rgB 48 57 31 x := by
    unfold rgB
    rw [List.all_map, Bool.not_and (_ && _)]
    rfl
  rw [eb]
  unfold nuB
  cases h : rgB 48 57 31 x with
  | false =>
    simp_all! only [hol_some]
  | true =>
    obtain ⟨hp, _, _⟩ := rg_pos h
    have hx : ixS (.str x) (.int 0) = some (chS x.cps.toList[0]) := ix_tx (k := 0) (by omega) hp
    have h0 : neD (chS x.cps.toList[0]) (.str "0") = some (.bl (!decide (x.cps.toList[0]? = some 48))) := by
      rw [zero_is]
      refine (ne_tx (sgn_one (hs _ (List.getElem_mem hp))) (sgn_one (by decide))).trans ?_
      rw [ch_inj, List.getElem?_eq_getElem hp]
      congr 3
      simp
    have h1 : eqD (.str x) (.str "0") = some (.bl (decide (x = ⟨#[48]⟩))) := by
      rw [zero_is]
      exact eq_tx hs (sgn_one (by decide))
    simp_all! only [hx, h0, h1, hol_some]
theorem digs {x : Str} (h : nuB x = true) : NumText.AllDigits x.cps.toList ∧ x.cps.toList ≠ [] ∧ x.length ≤ 31 := by
  unfold nuB at h
  obtain ⟨h1, h2, h3⟩ := rg_pos (Bool.and_eq_true_iff.mp h).1
  exact ⟨h3, List.length_pos_iff.mp h1, h2⟩
def valT (x : Str) : Int := ((NumText.digitsVal x.cps.toList : Nat) : Int)
theorem int_tx {x : Str} (h : nuB x = true) : intS [.str x] = some (.int (valT x)) := by
  obtain ⟨h1, h2, h3⟩ := digs h
  show (if x.length ≤ 640 then (PySem.intText? x).map D.int else none) = _
  rw [if_pos (by omega), intText_digits h1 h2 (by omega)]
  rfl
theorem number_val {x : Str} (hl : x.length ≤ 1000) (hs : sgn x) (h : nuB x = true) : m_number_of [.str x] = some (.val (.int (valT x))) := by
  refine runX_rt rfl ?_
  simp_all! only [g_number_of, isnum_eq hl hs, h, int_tx h, hol_some]
theorem number_exc {x : Str} (hl : x.length ≤ 1000) (hs : sgn x) (h : nuB x = false) : m_number_of [.str x] = some (.exc 2) := by
  refine runX_ex rfl ?_
  simp_all! only [g_number_of, isnum_eq hl hs, h, hol_some]
  exact ⟨_, rfl⟩
theorem mod_big {c : Int} {n : Int} (h : 0 < n) : ∃ r : Int, modI (.int c) (.int n) = some (.int r) ∧ 0 ≤ r ∧ r < n := ⟨_, ea_mod h, Int.emod_nonneg _ (by omega), Int.emod_lt_of_pos _ h⟩
theorem hol_if {b : Bool} {x y : Option Out} {Q : Out → Prop} (h1 : hol x Q) (h2 : hol y Q) : hol (iteO (some b) x y) Q := by
  cases b
  · exact h2
  · exact h1

/-! words of a row -/
theorem ev_spl {f g : DE} {δ : DS} {x y : D} (e1 : f δ = some x) (e2 : g δ = some y) : dSpl f g δ = splS x y := by
  unfold dSpl
  rw [e1, e2]
  rfl
theorem sub_sgn {x : Str} (hx : sgn x) {i j : Nat} : sgn (Builtin.Str.strSub x i j) := fun c hc => by
  rw [StrLaws.strSub_toList] at hc
  exact hx c (List.mem_of_mem_drop (List.mem_of_mem_take hc))
theorem parts_of {x : Str} {w : Nat} {P : Str → Prop} (h : ∀ i j, P (Builtin.Str.strSub x i j)) : ∀ (cuts : List Nat) (a : Nat), ∀ y ∈ StrLaws.partsFrom x w a cuts, P y
  | [], a, y, hy => by
    rw [List.mem_singleton.mp hy]; exact h _ _
  | c :: r, a, y, hy => by
    rcases List.mem_cons.mp hy with rfl | hy
    · exact h _ _
    · exact parts_of h r _ y hy
theorem split_all {x y : Str} {P : Str → Prop} (h0 : P x) (h : ∀ i j, P (Builtin.Str.strSub x i j)) : ∀ z ∈ Txt.split x y, P z := fun z hz => by
  unfold Txt.split at hz
  split at hz
  · rw [List.mem_singleton.mp hz]; exact h0
  · split at hz
    · rw [List.mem_singleton.mp hz]; exact h0
    · rw [StrLaws.partsBetween_eq] at hz
      exact parts_of h _ _ z hz
theorem split_len {x y : Str} : (Txt.split x y).length ≤ x.length + 2 := by
  unfold Txt.split
  split
  · simp
  · split
    · simp
    · rw [PyProof.Rows.len_partsBetween]
      have := StrLaws.occ_length_le x y 0 x.length (x.length + 1)
      omega
/-- a good word -/
def wd (n : Nat) (x : Str) : Prop := x.length ≤ n ∧ sgn x
theorem split_wd {n : Nat} {x y : Str} (h : wd n x) : ∀ z ∈ Txt.split x y, wd n z := split_all h fun i j => ⟨by
  have : (Builtin.Str.strSub x i j).length ≤ x.length := by
    rw [← tx_len, ← tx_len, StrLaws.strSub_toList, List.length_take, List.length_drop]
    omega
  exact Nat.le_trans this h.1, sub_sgn h.2⟩
theorem blank_len : (Str.ofString " ").length = 1 := by decide +kernel
theorem words_is {x : Str} (h : wd 600 x) : ∃ (f : Str) (ws : List Str), splS (.str x) (.str " ") = some (D.str f :: ws.map .str) ∧ ws.length ≤ 601 ∧ wd 600 f ∧ ∀ z ∈ ws, wd 600 z := by
  have hl := split_len (x := x) (y := " ")
  have hp := PyProof.Rows.split_pos x " "
  have hw := split_wd (y := " ") h
  have e : splS (.str x) (.str " ") = some ((Txt.split x " ").map .str) := if_pos ⟨by have := h.1; omega, by rw [blank_len]; rfl, by have := h.1; omega⟩
  cases es : Txt.split x " " with
  | nil => rw [es] at hp; exact absurd hp (by decide)
  | cons f ws =>
    rw [es] at e hl hw
    refine ⟨f, ws, e, ?_, hw f List.mem_cons_self, fun z hz => hw z (List.mem_cons_of_mem _ hz)⟩
    have := h.1
    rw [List.length_cons] at hl
    omega
/-! texts in lists -/
def sgB (x : Str) : Bool := x.cps.toList.all fun c => decide (c < 128)
theorem sg_of {x : Str} (h : sgB x = true) : sgn x := fun c hc => of_decide_eq_true (List.all_eq_true.mp h c hc)
theorem ok_strs {ts : List Str} (h : ∀ t ∈ ts, sgn t) : okN 1 (.lst (ts.map .str)) := okN_map fun t ht => okN_str (h t ht)
theorem any_tx {x : Str} : ∀ {ts : List Str}, ((ts.map D.str).any fun y => PyData.eqv (toP y) (toP (.str x))) = decide (x ∈ ts)
  | [] => by simp
  | t :: r => by
    rw [List.map_cons, List.any_cons, any_tx]
    show (decide (t = x) || _) = _
    rw [Bool.eq_iff_iff, Bool.or_eq_true, decide_eq_true_eq, decide_eq_true_eq, decide_eq_true_eq, List.mem_cons]
    exact or_congr ⟨Eq.symm, Eq.symm⟩ Iff.rfl
theorem in_tx {x : Str} {ts : List Str} (hx : sgn x) (h : ∀ t ∈ ts, sgn t) : inD (.str x) (.lst (ts.map .str)) = some (.bl (decide (x ∈ ts))) := by
  show (if (okP (.str x) && okP (.lst (ts.map .str))) = true then some ((ts.map D.str).any fun y => PyData.eqv (toP y) (toP (.str x))) else none).map D.bl = _
  rw [okP_of (okN_str hx) (by omega), okP_of (ok_strs h) (by omega), Bool.true_and, if_pos rfl, any_tx]
  rfl
theorem nin_tx {x : Str} {ts : List Str} (hx : sgn x) (h : ∀ t ∈ ts, sgn t) : ninD (.str x) (.lst (ts.map .str)) = some (.bl (!decide (x ∈ ts))) := by
  show (if (okP (.str x) && okP (.lst (ts.map .str))) = true then some ((ts.map D.str).any fun y => PyData.eqv (toP y) (toP (.str x))) else none).map (fun b => D.bl (!b)) = _
  rw [okP_of (okN_str hx) (by omega), okP_of (ok_strs h) (by omega), Bool.true_and, if_pos rfl, any_tx]
  rfl
theorem nin_txT {x : Str} {ts : List Str} (hx : sgn x) (h : ∀ t ∈ ts, sgn t) : ninD (.str x) (.tup (ts.map .str)) = some (.bl (!decide (x ∈ ts))) := by
  show (if (okP (.str x) && okP (.tup (ts.map .str))) = true then some ((ts.map D.str).any fun y => PyData.eqv (toP y) (toP (.str x))) else none).map (fun b => D.bl (!b)) = _
  rw [okP_of (okN_str hx) (by omega), okP_of (okN_mapT (f := D.str) fun t ht => okN_str (h t ht)) (by omega), Bool.true_and, if_pos rfl, any_tx]
  rfl
theorem all_sg {ts : List Str} (h : ts.all sgB = true) : ∀ t ∈ ts, sgn t := fun t ht => sg_of (List.all_eq_true.mp h t ht)
theorem ev_lits {ts : List Str} {δ : DS} : dLitS ts δ = some (ts.map .str) := (rfl)
def three : List Str := ["plain", "ahead", "rest"]
theorem three_sg : ∀ t ∈ three, sgn t := all_sg (by decide +kernel)
/-! kinds, names -/
def kdB (x : Str) : Bool := decide (x ∈ three)
def nmB (x : Str) : Bool := rgB 97 122 12 x
theorem kind_eq {x : Str} (hs : sgn x) : m_kind_of [.str x] = some (if kdB x = true then .val (.str x) else .exc 2) := by
  have e := nin_txT hs three_sg
  unfold three at e
  cases h : kdB x with
  | true =>
    refine runX_rt rfl ?_
    unfold kdB three at h
    simp only [List.map_cons, List.map_nil, h] at e
    simp_all! only [g_kind_of, e, hol_some]
  | false =>
    refine runX_ex rfl ?_
    unfold kdB three at h
    simp only [List.map_cons, List.map_nil, h] at e
    simp_all! only [g_kind_of, e, hol_some]
    exact ⟨_, rfl⟩
theorem name_eq {x : Str} (hl : x.length ≤ 1000) : m_name_of [.str x] = some (if nmB x = true then .val (.str x) else .exc 2) := by
  have e := isname_eq hl
  cases h : nmB x with
  | true =>
    refine runX_rt rfl ?_
    unfold nmB at h
    simp_all! only [g_name_of, e, h, hol_some]
  | false =>
    refine runX_ex rfl ?_
    unfold nmB at h
    simp_all! only [g_name_of, e, h, hol_some]
    exact ⟨_, rfl⟩
theorem num_eq {x : Str} (hl : x.length ≤ 1000) (hs : sgn x) : m_number_of [.str x] = some (if nuB x = true then .val (.int (valT x)) else .exc 2) := by
  cases h : nuB x with
  | true => exact number_val hl hs h
  | false => exact number_exc hl hs h

/-! the law's look at a word -/
def isB (c : Nat) (w : Str) : Bool := if c = 107 then kdB w else if c = 102 then nuB w else nmB w
theorem k_is' : Str.ofString "k" = ⟨#[107]⟩ := by decide +kernel
theorem f_is' : Str.ofString "f" = ⟨#[102]⟩ := by decide +kernel
theorem eq_ch {c d : Nat} {t : Str} (hc : c < 128) (hd : d < 128) (e : t = ⟨#[d]⟩) : eqD (chS c) (.str t) = some (.bl (decide (c = d))) := by
  rw [e]
  exact (eq_tx (sgn_one hc) (sgn_one hd)).trans (by rw [ch_inj])
theorem lt_two {n : Nat} {k : Nat} : (decide (0 < (n : Int)) && decide ((n : Int) < ((k + 1 : Nat) : Int))) = (decide (1 ≤ (n : Int)) && decide ((n : Int) ≤ (k : Int))) := by
  rw [Bool.eq_iff_iff]
  simp only [Bool.and_eq_true, decide_eq_true_eq]
  omega
theorem ch_two {x : Str} {k : Int} : chO ltI ltI (some (.int 0)) (some (.int (x.length : Int))) (some (.int k)) = some (.bl (decide (0 < (x.length : Int)) && decide ((x.length : Int) < k))) := eo_chain ea_lt ea_lt
theorem abc_rng : (Str.ofString "abcdefghijklmnopqrstuvwxyz").cps.toList = List.range' 97 26 := by decide +kernel
theorem dig_rng : (Str.ofString "0123456789").cps.toList = List.range' 48 10 := by decide +kernel
theorem abc_mem (c : Nat) : decide (c ∈ List.range' 97 26) = (decide (97 ≤ c) && decide (c ≤ 122)) := by rw [mem_rng]; simp
theorem dig_mem (c : Nat) : decide (c ∈ List.range' 48 10) = (decide (48 ≤ c) && decide (c ≤ 57)) := by rw [mem_rng]; simp
theorem lawis_eq {c : Nat} {w : Str} (hc : c < 128) (hw : wd 600 w) : m__law_is [chS c, .str w] = some (.bl (isB c w)) := by
  refine run_of rfl ?_
  have e1 := eq_ch hc (show 107 < 128 by decide) k_is'
  have e2 := eq_ch hc (show 102 < 128 by decide) f_is'
  have hl := hw.1
  simp! only [g__law_is, e1]
  by_cases h1 : c = 107
  · have i3 := in_tx hw.2 three_sg
    unfold three at i3
    rw [decide_eq_true h1]
    simp only [List.map_cons, List.map_nil] at i3
    simp_all! only [ev_lits, i3, hol_some]
    show Out.rt (.bl (kdB w)) = _
    unfold isB
    rw [if_pos h1]
  · rw [decide_eq_false h1]
    simp_all! only [e2]
    by_cases h2 : c = 102
    · rw [decide_eq_true h2]
      simp_all! only [ev_sgn, sg_eq]
      have hB : isB c w = nuB w := by unfold isB; rw [if_neg h1, if_pos h2]
      refine hol_bindR (c := w.cps.toList.all fun c => decide (48 ≤ c) && decide (c ≤ 57)) (d := .bl false) (I := fun s => ∃ o3, s = [some (.sh (chS c)), some (.sh (.str w)), some (.sh (.str "0123456789")), o3]) (for_mapR (enc := chS) _ (fun c => decide (48 ≤ c) && decide (c ≤ 57)) _ ⟨_, rfl⟩ ?_) ?_ ?_
      · rintro d hd s ⟨o3, rfl⟩
        have en : ninT (chS d) (.str "0123456789") = some (.bl (!(decide (48 ≤ d) && decide (d ≤ 57)))) := by rw [nin_ch, dig_rng, dig_mem]
        simp! only [en]
        cases (decide (48 ≤ d) && decide (d ≤ 57)) with
        | true =>
          simp_all! only [hol_some]
          exact ⟨_, rfl, _, rfl⟩
        | false =>
          simp_all! only [hol_some]
          exact (if_neg Bool.false_ne_true).mpr trivial
      · rintro ha s ⟨o3, rfl⟩
        have ct := ch_two (x := w) (k := 32)
        have l2 : (decide (0 < (w.length : Int)) && decide ((w.length : Int) < 32)) = (decide (1 ≤ (w.length : Int)) && decide ((w.length : Int) ≤ 31)) := lt_two (k := 31)
        rw [l2] at ct
        have e2' := e2
        rw [decide_eq_true h2] at e2'
        simp! only [e2', len_tx (show w.length ≤ 1000000 by omega), ct]
        rw [hB]
        have hn : nuB w = ((decide (1 ≤ (w.length : Int)) && decide ((w.length : Int) ≤ 31)) && (!decide (w.cps.toList[0]? = some 48) || decide (w = ⟨#[48]⟩))) := by
          unfold nuB rgB
          rw [ha, Bool.and_true]
          rfl
        cases hx : (decide (1 ≤ (w.length : Int)) && decide ((w.length : Int) ≤ 31)) with
        | false =>
          rw [hx, Bool.false_and] at hn
          simp_all! only [hn, hol_some]
        | true =>
          rw [hx, Bool.true_and] at hn
          have hp : 0 < w.cps.toList.length := by
            rw [Bool.and_eq_true, decide_eq_true_eq, decide_eq_true_eq] at hx
            rw [tx_len]; omega
          have h0 : ixS (.str w) (.int 0) = some (chS w.cps.toList[0]) := ix_tx (k := 0) (by omega) hp
          have h3 : neD (chS w.cps.toList[0]) (.str "0") = some (.bl (!decide (w.cps.toList[0]? = some 48))) := by
            rw [zero_is]
            refine (ne_tx (sgn_one (hw.2 _ (List.getElem_mem hp))) (sgn_one (by decide))).trans ?_
            rw [ch_inj, List.getElem?_eq_getElem hp]
            congr 3
            simp
          have h4 : eqD (.str w) (.str "0") = some (.bl (decide (w = ⟨#[48]⟩))) := by
            rw [zero_is]
            exact eq_tx hw.2 (sgn_one (by decide))
          rw [Bool.or_comm] at hn
          simp_all! only [h0, h3, h4, hn, hol_some]
      · intro ha
        have : nuB w = false := by
          unfold nuB rgB
          rw [ha, Bool.and_false]
          rfl
        rw [hB, this]
    · rw [decide_eq_false h2]
      simp_all! only [ev_sgn, sg_eq]
      have hB : isB c w = nmB w := by unfold isB; rw [if_neg h1, if_neg h2]
      refine hol_bindR (c := w.cps.toList.all fun c => decide (97 ≤ c) && decide (c ≤ 122)) (d := .bl false) (I := fun s => ∃ o3, s = [some (.sh (chS c)), some (.sh (.str w)), some (.sh (.str "abcdefghijklmnopqrstuvwxyz")), o3]) (for_mapR (enc := chS) _ (fun c => decide (97 ≤ c) && decide (c ≤ 122)) _ ⟨_, rfl⟩ ?_) ?_ ?_
      · rintro d hd s ⟨o3, rfl⟩
        have en : ninT (chS d) (.str "abcdefghijklmnopqrstuvwxyz") = some (.bl (!(decide (97 ≤ d) && decide (d ≤ 122)))) := by rw [nin_ch, abc_rng, abc_mem]
        simp! only [en]
        cases (decide (97 ≤ d) && decide (d ≤ 122)) with
        | true =>
          simp_all! only [hol_some]
          exact ⟨_, rfl, _, rfl⟩
        | false =>
          simp_all! only [hol_some]
          exact (if_neg Bool.false_ne_true).mpr trivial
      · rintro ha s ⟨o3, rfl⟩
        have ct := ch_two (x := w) (k := 13)
        have l2 : (decide (0 < (w.length : Int)) && decide ((w.length : Int) < 13)) = (decide (1 ≤ (w.length : Int)) && decide ((w.length : Int) ≤ 12)) := lt_two (k := 12)
        rw [l2] at ct
        simp_all! only [e2, decide_eq_false h2, len_tx (show w.length ≤ 1000000 by omega), ct, hol_some]
        rw [hB]
        unfold nmB rgB
        rw [ha, Bool.and_true]
        rfl
      · intro ha
        have : nmB w = false := by
          unfold nmB rgB
          rw [ha, Bool.and_false]
        rw [hB, this]

/-! the shape -/
theorem fold_rep {c : Nat} : ∀ (k : Nat) (z : Array Nat), ((List.replicate k #[c]).foldl (· ++ ·) z).toList = z.toList ++ List.replicate k c
  | 0, z => by simp
  | k + 1, z => by
    rw [List.replicate_succ, List.foldl_cons, fold_rep k, Array.toList_append, List.replicate_succ]
    simp
theorem rep_list {c : Nat} {t : Str} (e : t = ⟨#[c]⟩) (n : Nat) : (repT t (n : Int)).cps.toList = List.replicate n c := by
  subst e
  unfold repT
  by_cases h0 : (n : Int) < 1
  · rw [if_pos h0]
    have : n = 0 := by omega
    subst this
    rfl
  · rw [if_neg h0]
    by_cases h1 : ((n : Int) == 1 || (⟨#[c]⟩ : Str).length == 0) = true
    · rw [if_pos h1]
      have h2 : (n : Int) = 1 := by
        rcases Bool.or_eq_true_iff.mp h1 with h | h
        · exact eq_of_beq h
        · exact absurd h (by show ¬ ((1 : Nat) == 0) = true; decide)
      have : n = 1 := by omega
      subst this
      rfl
    · rw [if_neg h1]
      exact (fold_rep (n : Int).toNat #[]).trans (by simp)
theorem rep_len {c : Nat} {t : Str} (e : t = ⟨#[c]⟩) (n : Nat) : (repT t (n : Int)).length = n := by
  rw [← tx_len, rep_list e, List.length_replicate]
theorem n_is' : Str.ofString "n" = ⟨#[110]⟩ := by decide +kernel
def nS (n : Nat) : Str := repT "n" (n : Int)
theorem nS_list (n : Nat) : (nS n).cps.toList = List.replicate n 110 := rep_list n_is' n
theorem nS_len (n : Nat) : (nS n).length = n := rep_len n_is' n
theorem cat_list {x y : Str} : (x ++ y).cps.toList = x.cps.toList ++ y.cps.toList := by
  show (x.cps ++ y.cps).toList = _
  rw [Array.toList_append]
theorem disp5 {a b c d e : Str} {f1 f2 f3 f4 f5 : DE} {δ : DS} {x1 x2 x3 x4 x5 : Str} (h1 : f1 δ = some (.str x1)) (h2 : f2 δ = some (.str x2)) (h3 : f3 δ = some (.str x3)) (h4 : f4 δ = some (.str x4)) (h5 : f5 δ = some (.str x5)) (nd : [a, b, c, d, e].Nodup) :
    dDispN [(dC (.str a), f1), (dC (.str b), f2), (dC (.str c), f3), (dC (.str d), f4), (dC (.str e), f5)] δ = some (.dct [Sum.inr a, Sum.inr b, Sum.inr c, Sum.inr d, Sum.inr e] [.str x1, .str x2, .str x3, .str x4, .str x5]) := by
  have e : dPairs [(dC (.str a), f1), (dC (.str b), f2), (dC (.str c), f3), (dC (.str d), f4), (dC (.str e), f5)] δ = some [(a, .str x1), (b, .str x2), (c, .str x3), (d, .str x4), (e, .str x5)] := by
    simp only [dPairs, dC, h1, h2, h3, h4, h5, Option.bind_some, D.imm, if_true, Option.map_some]
  unfold dDispN
  rw [e, Option.bind_some, if_pos ⟨nd, by simp⟩]
  rfl
theorem in5 {a b c d e f : Str} {ds : List D} : inK (.str f) (.dct [Sum.inr a, Sum.inr b, Sum.inr c, Sum.inr d, Sum.inr e] ds) = some (decide (a = f) || (decide (b = f) || (decide (c = f) || (decide (d = f) || decide (e = f))))) := by
  show some (hasK _ _) = _
  simp [hasK]
theorem get5 {a b c d e f : Str} {x1 x2 x3 x4 x5 : D} : getK (.dct [Sum.inr a, Sum.inr b, Sum.inr c, Sum.inr d, Sum.inr e] [x1, x2, x3, x4, x5]) (.str f) = if a = f then some x1 else if b = f then some x2 else if c = f then some x3 else if d = f then some x4 else if e = f then some x5 else none := by
  show valK _ _ _ = _
  simp [valK]
def shT (f : Str) (n : Nat) : Str := if "vote" = f then "f" ++ nS n else if "out" = f then "f" else if "raise" = f then "fn" else if "beats" = f then "nn" else if "chair" = f then "k" ++ nS n else if f ∈ three then nS n else ""
theorem shape_eq {f : Str} {n : Nat} (hn : n ≤ 1000) (hs : sgn f) : m__law_shape [.str f, .int (n : Int)] = some (.str (shT f n)) := by
  refine run_of rfl ?_
  have m1 : mulS (.str "n") (.int (n : Int)) = some (.str (nS n)) := if_pos ⟨by decide +kernel, by omega, by omega⟩
  have hr := nS_len n
  have lf : (Str.ofString "f").length = 1 := by decide +kernel
  have lk : (Str.ofString "k").length = 1 := by decide +kernel
  have a1 := add_tx (x := "f") (y := nS n) (by rw [lf]; omega)
  have a2 := add_tx (x := "k") (y := nS n) (by rw [lk]; omega)
  have dp : dDispN [((dC (.str "vote")), (d2 addS (dC (.str "f")) (d2 mulS (dC (.str "n")) (dVar 1)))), ((dC (.str "out")), (dC (.str "f"))), ((dC (.str "raise")), (dC (.str "fn"))), ((dC (.str "beats")), (dC (.str "nn"))), ((dC (.str "chair")), (d2 addS (dC (.str "k")) (d2 mulS (dC (.str "n")) (dVar 1))))] [some (.str f), some (.int (n : Int)), none] = some (.dct [Sum.inr "vote", Sum.inr "out", Sum.inr "raise", Sum.inr "beats", Sum.inr "chair"] [.str ("f" ++ nS n), .str "f", .str "fn", .str "nn", .str ("k" ++ nS n)]) := by
    refine disp5 ?_ rfl rfl rfl ?_ (by decide +kernel) <;> simp! only [m1, a1, a2]
  have i3 := in_tx hs three_sg
  unfold three at i3
  simp only [List.map_cons, List.map_nil] at i3
  simp! only [g__law_shape, dp, in5, get5, ev_lits, i3, m1]
  unfold shT
  by_cases h1 : (Str.ofString "vote") = f
  · simp_all! only [h1, if_true, hol_some]
  by_cases h2 : (Str.ofString "out") = f
  · simp_all! only [h1, h2, if_true, if_false, hol_some]
  by_cases h3 : (Str.ofString "raise") = f
  · simp_all! only [h1, h2, h3, if_true, if_false, hol_some]
  by_cases h4 : (Str.ofString "beats") = f
  · simp_all! only [h1, h2, h3, h4, if_true, if_false, hol_some]
  by_cases h5 : (Str.ofString "chair") = f
  · simp_all! only [h1, h2, h3, h4, h5, if_true, if_false, hol_some]
  by_cases h6 : f ∈ three
  · have h7 := h6
    unfold three at h7
    simp_all! only [ev_lits, i3, m1, h1, h2, h3, h4, h5, h6, h7, if_true, if_false, hol_some]
  · have h7 := h6
    unfold three at h7
    simp_all! only [ev_lits, i3, m1, h1, h2, h3, h4, h5, h6, h7, if_true, if_false, hol_some]

/-! what is due -/
def fifteen : List Str := ["vote", "out", "raise", "back", "beats", "top", "uncovered", "crowns", "weights", "plain", "ahead", "rest", "chair", "line", "parts"]
theorem fifteen_sg : ∀ t ∈ fifteen, sgn t := all_sg (by decide +kernel)
def okL : List Nat → List Str → Bool
  | [], [] => true
  | c :: r, w :: ws => isB c w && okL r ws
  | _, _ => false
def pk (sh : List Nat) (ws : List Str) (k : Nat) : Bool := match sh[k]?, ws[k]? with
  | some c, some w => isB c w
  | _, _ => false
theorem okL_len : ∀ {sh : List Nat} {ws : List Str}, okL sh ws = true → sh.length = ws.length
  | [], [], _ => rfl
  | c :: r, w :: ws, h => by
    have h : (isB c w && okL r ws) = true := h
    rw [Bool.and_eq_true] at h
    rw [List.length_cons, List.length_cons, okL_len h.2]
theorem okL_all : ∀ {sh : List Nat} {ws : List Str}, sh.length = ws.length → (List.range sh.length).all (pk sh ws) = okL sh ws
  | [], [], _ => rfl
  | c :: r, w :: ws, h => by
    rw [List.length_cons, List.range_succ_eq_map, List.all_cons, List.all_map]
    have : (pk (c :: r) (w :: ws) ∘ Nat.succ) = pk r ws := by
      funext k
      show pk (c :: r) (w :: ws) (k + 1) = _
      unfold pk
      rw [List.getElem?_cons_succ, List.getElem?_cons_succ]
    rw [this, okL_all (by simpa using h)]
    rfl
def fewI (f : Str) (ws : List Str) : Int := if f = "vote" ∨ f = "chair" then (ws.length : Int) - 1 else (ws.length : Int)
def shF (f : Str) (ws : List Str) : List Nat := (shT f (fewI f ws).toNat).cps.toList
def resD (f : Str) (ws : List Str) : List D := if f ∈ three then [.str f, .tup (ws.map .str)] else if f = "chair" then .str f :: ((ws.take 1).map .str ++ [.tup ((ws.drop 1).map .str)]) else if f = "vote" then [.str f, .int (valT (ws.headD "")), .tup ((ws.drop 1).map .str)] else if f = "out" ∨ f = "raise" then .str f :: .int (valT (ws.headD "")) :: (ws.drop 1).map .str else .str f :: ws.map .str
def goodB (f : Str) (ws : List Str) : Bool := decide (f ∈ fifteen) && decide (0 ≤ fewI f ws) && okL (shF f ws) ws
theorem nS_sg (n : Nat) : sgn (nS n) := fun c hc => by
  rw [nS_list] at hc
  rw [(List.mem_replicate.mp hc).2]
  decide
theorem shT_sg (f : Str) (n : Nat) : sgn (shT f n) := by
  have s1 : sgn "f" := sg_of (by decide +kernel)
  have s2 : sgn "fn" := sg_of (by decide +kernel)
  have s3 : sgn "nn" := sg_of (by decide +kernel)
  have s4 : sgn "k" := sg_of (by decide +kernel)
  have s5 : sgn "" := sg_of (by decide +kernel)
  unfold shT
  split
  · exact sgn_cat s1 (nS_sg n)
  split
  · exact s1
  split
  · exact s2
  split
  · exact s3
  split
  · exact sgn_cat s4 (nS_sg n)
  split
  · exact nS_sg n
  · exact s5
theorem shT_len (f : Str) (n : Nat) : (shT f n).length ≤ n + 2 := by
  have s1 : (Str.ofString "f").length = 1 := by decide +kernel
  have s2 : (Str.ofString "fn").length = 2 := by decide +kernel
  have s3 : (Str.ofString "nn").length = 2 := by decide +kernel
  have s4 : (Str.ofString "k").length = 1 := by decide +kernel
  have s5 : (Str.ofString "").length = 0 := by decide +kernel
  have hn := nS_len n
  unfold shT
  split
  · rw [len_cat]; omega
  split
  · omega
  split
  · omega
  split
  · omega
  split
  · rw [len_cat]; omega
  split
  · omega
  · omega
/-- a number first -/
theorem num_first {f : Str} {ws : List Str} (h : f = "vote" ∨ f = "out" ∨ f = "raise") (ho : okL (shF f ws) ws = true) : ∃ x r, ws = x :: r ∧ nuB x = true := by
  have hd : ∃ r, shF f ws = 102 :: r := by
    have s1 : (Str.ofString "f").cps.toList = [102] := by decide +kernel
    have s2 : (Str.ofString "fn").cps.toList = [102, 110] := by decide +kernel
    unfold shF shT
    rcases h with rfl | rfl | rfl
    · rw [if_pos rfl, cat_list, s1]; exact ⟨_, rfl⟩
    · rw [if_neg (by decide +kernel), if_pos rfl, s1]; exact ⟨_, rfl⟩
    · rw [if_neg (by decide +kernel), if_neg (by decide +kernel), if_pos rfl, s2]; exact ⟨_, rfl⟩
  obtain ⟨r, e⟩ := hd
  rw [e] at ho
  cases ws with
  | nil => cases ho
  | cons x xs =>
    have ho : (isB 102 x && okL r xs) = true := ho
    rw [Bool.and_eq_true] at ho
    exact ⟨x, xs, rfl, ho.1⟩
theorem cut1 {f : D} {ws : List D} : cutL (f :: ws) (some 1) none = ws := by
  have := cutL_drop (ds := f :: ws) (k := 1)
  simpa using this
theorem cut2 {f : D} {ws : List D} : cutL (f :: ws) (some 2) none = ws.drop 1 := by
  have := cutL_drop (ds := f :: ws) (k := 2)
  simpa using this

theorem im_tup {ds : List D} (h : imms ds = true) : (D.tup ds).imm = true := by
  unfold D.imm
  exact h
theorem im_strs (ws : List Str) : imms (ws.map D.str) = true := imms_all fun d hd => by
  obtain ⟨w, _, rfl⟩ := List.mem_map.mp hd
  rfl
theorem im_cons {d : D} {ds : List D} (h1 : d.imm = true) (h2 : imms ds = true) : imms (d :: ds) = true := by
  unfold imms
  rw [h1, h2]
  rfl
theorem due_eq {row f : Str} {ws : List Str} (hw : splS (.str row) (.str " ") = some (D.str f :: ws.map .str)) (hl : ws.length ≤ 601) (hf : wd 600 f) (hws : ∀ z ∈ ws, wd 600 z) : m__law_due [.str row] = some (if goodB f ws = true then .tup (resD f ws) else .non) := by
  refine run_of rfl ?_
  obtain ⟨W, hW⟩ : ∃ W, W = D.str f :: ws.map D.str := ⟨_, rfl⟩
  rw [← hW] at hw
  have sp : ∀ δ, dSpl (dVar 0) (dC (.str " ")) (some (.str row) :: δ) = some W := fun δ => (ev_spl rfl rfl).trans hw
  have w0 : atI W 0 = some (.str f) := by rw [hW]; exact ea_at0
  have wl : (W.length : Int) - 1 = (ws.length : Int) := by rw [hW, List.length_cons, List.length_map]; omega
  have wk : ∀ (k : Nat) (h : k < ws.length), atI W ((k : Int) + 1) = some (.str ws[k]) := fun k h => by
    have : atI W ((k + 1 : Nat) : Int) = some (.str ws[k]) := atI_nat (by rw [hW]; simp [h])
    simpa using this
  have e1 := eq_tx hf.2 (sg_of (x := "vote") (by decide +kernel))
  have e2 := eq_tx hf.2 (sg_of (x := "chair") (by decide +kernel))
  have e3 := eq_tx hf.2 (sg_of (x := "out") (by decide +kernel))
  have e4 := eq_tx hf.2 (sg_of (x := "raise") (by decide +kernel))
  have i3 := in_tx hf.2 three_sg
  have n15 := nin_tx hf.2 fifteen_sg
  have c15 : catO (some (.lst ((["vote", "out", "raise", "back", "beats", "top", "uncovered", "crowns", "weights", "plain", "ahead"] : List Str).map D.str))) (some (.lst ((["rest", "chair", "line", "parts"] : List Str).map D.str))) = some (fifteen.map D.str) := eo_cat (by simp)
  have q3 : f ∈ three ↔ f ∈ [Str.ofString "plain", "ahead", "rest"] := Iff.rfl
  obtain ⟨L15, h15⟩ : ∃ L, L = fifteen.map D.str := ⟨_, rfl⟩
  rw [← h15] at c15 n15
  unfold three at i3
  simp only [List.map_cons, List.map_nil] at i3 c15
  simp! only [g__law_due, sp, w0, ev_lits, wl, e1, e2]
  refine hol_bindO (I := fun s => s = [some (.sh (.str row)), some (.sh (.lst W)), some (.sh (.str f)), some (.sh (.lst [.str "vote", .str "out", .str "raise", .str "back", .str "beats", .str "top", .str "uncovered", .str "crowns", .str "weights", .str "plain", .str "ahead"])), some (.sh (.int (fewI f ws))), none, none]) ?_ ?_
  · unfold fewI
    by_cases h : f = "vote" ∨ f = "chair"
    · rw [if_pos h]
      have : (decide (f = Str.ofString "vote") || decide (f = Str.ofString "chair")) = true := by rw [Bool.or_eq_true, decide_eq_true_eq, decide_eq_true_eq]; exact h
      rw [this]
      simp! only [hol_some]
      exact ⟨_, rfl, rfl⟩
    · rw [if_neg h]
      have : (decide (f = Str.ofString "vote") || decide (f = Str.ofString "chair")) = false := by rw [Bool.or_eq_false_iff, decide_eq_false_iff_not, decide_eq_false_iff_not]; exact not_or.mp h
      rw [this]
      simp! only [hol_some]
      exact ⟨_, rfl, rfl⟩
  rintro s rfl
  simp! only [ev_lits, c15, n15]
  by_cases h1 : f ∈ fifteen
  rotate_left
  · have : goodB f ws = false := by unfold goodB; rw [decide_eq_false h1]; rfl
    rw [this]
    simp_all! only [decide_eq_false h1, hol_some]
    rfl
  by_cases h2 : 0 ≤ fewI f ws
  rotate_left
  · have : goodB f ws = false := by unfold goodB; rw [decide_eq_false h2, Bool.and_false]; rfl
    have h3 : fewI f ws < 0 := by omega
    rw [this]
    simp_all! only [decide_eq_true h1, decide_eq_true h3, hol_some]
    rfl
  have hg : goodB f ws = okL (shF f ws) ws := by unfold goodB; rw [decide_eq_true h1, decide_eq_true h2]; rfl
  have h3 : ¬ fewI f ws < 0 := by omega
  obtain ⟨n, hn⟩ : ∃ n : Nat, n = (fewI f ws).toNat := ⟨_, rfl⟩
  have hn' : fewI f ws = (n : Int) := by omega
  have hnl : n ≤ 601 := by
    have : fewI f ws ≤ (ws.length : Int) := by unfold fewI; split <;> omega
    omega
  have hs : shF f ws = (shT f n).cps.toList := by unfold shF; rw [hn]
  have se := shape_eq (f := f) (n := n) (by omega) hf.2
  have sl := shT_len f n
  have sg := shT_sg f n
  rw [hg, hs]
  obtain ⟨sh, hsh⟩ : ∃ sh, sh = shT f n := ⟨_, rfl⟩
  rw [← hsh] at hs se sl sg ⊢
  have h4 : ¬ (n : Int) < 0 := by omega
  simp_all! only [decide_eq_true h1, hn', decide_eq_false h4, se, len_tx (show sh.length ≤ 1000000 by omega), wl]
  by_cases h5 : sh.length = ws.length
  rotate_left
  · have h6 : decide ((sh.length : Int) = (ws.length : Int)) = false := decide_eq_false (by omega)
    have h7 : okL sh.cps.toList ws = false := by
      cases h : okL sh.cps.toList ws with
      | false => rfl
      | true => exact absurd (by rw [← tx_len]; exact okL_len h) h5
    rw [h6, h7]
    simp_all! only [hol_some]
    rfl
  have h6 : decide ((sh.length : Int) = (ws.length : Int)) = true := decide_eq_true (by omega)
  have h8 : sh.cps.toList.length = ws.length := by rw [tx_len]; exact h5
  rw [h6]
  simp_all! only [len_tx (show sh.length ≤ 1000000 by omega), rng1_nat (show sh.length ≤ 1000000 by omega)]
  refine hol_bindR (c := okL sh.cps.toList ws) (d := .non) (I := fun s => ∃ o6, s = [some (.sh (.str row)), some (.sh (.lst W)), some (.sh (.str f)), some (.sh (.lst [.str "vote", .str "out", .str "raise", .str "back", .str "beats", .str "top", .str "uncovered", .str "crowns", .str "weights", .str "plain", .str "ahead"])), some (.sh (.int (n : Int))), some (.sh (.str sh)), o6]) ?_ ?_ ?_
  · rw [← okL_all h8, ← tx_len]
    refine for_rngR _ (pk sh.cps.toList ws) .non ⟨_, rfl⟩ ?_
    rintro k hk s ⟨o6, rfl⟩
    have hk2 : k < ws.length := by omega
    have x1 := ix_tx (x := sh) (k := k) (by omega) hk
    have x2 := wk k hk2
    have x3 := lawis_eq (sg _ (List.getElem_mem hk)) (hws _ (List.getElem_mem hk2))
    have hp : pk sh.cps.toList ws k = isB sh.cps.toList[k] ws[k] := by
      unfold pk
      rw [List.getElem?_eq_getElem hk, List.getElem?_eq_getElem hk2]
    rw [hp]
    simp! only [x1, x2, x3]
    cases isB sh.cps.toList[k] ws[k] with
    | true =>
      simp_all! only [hol_some]
      exact ⟨_, rfl, _, rfl⟩
    | false =>
      simp_all! only [hol_some]
      exact (if_neg Bool.false_ne_true).mpr trivial
  rotate_left
  · intro h
    rw [h]
    rfl
  rintro ho s ⟨o6, rfl⟩
  rw [ho, if_pos rfl]
  rw [← hs] at ho
  have c1 : cutL W (some 1) none = ws.map .str := by rw [hW]; exact cut1
  have c2 : cutL W (some 2) none = (ws.drop 1).map .str := by rw [hW, cut2, List.map_drop]
  simp! only [ev_lits, i3, c1]
  unfold resD
  by_cases g1 : f ∈ three
  · have g2 := q3.mp g1
    have im : immO (some (.tup [.str f, .tup (ws.map .str)])) = some (.tup [.str f, .tup (ws.map .str)]) := eo_imm (im_tup (im_cons rfl (im_cons (im_tup (im_strs ws)) rfl)))
    rw [if_pos g1]
    simp_all! only [g2, im, hol_some]
  rw [if_neg g1]
  have g2 : ¬ f ∈ [Str.ofString "plain", Str.ofString "ahead", Str.ofString "rest"] := fun z => g1 (q3.mpr z)
  simp_all! only [decide_eq_false g2, e2, c2]
  by_cases g3 : f = "chair"
  · rw [if_pos g3]
    have hne : ∃ x r, ws = x :: r := by
      cases ws with
      | nil => exact absurd h2 (by unfold fewI; rw [if_pos (.inr g3)]; decide)
      | cons x r => exact ⟨x, r, rfl⟩
    obtain ⟨x, r, rfl⟩ := hne
    have w1 : atI W 1 = some (.str x) := by rw [hW, List.map_cons]; exact ea_at1
    have im : immO (some (.tup [.str f, .str x, .tup (((x :: r).drop 1).map .str)])) = some (.tup [.str f, .str x, .tup (((x :: r).drop 1).map .str)]) := eo_imm (im_tup (im_cons rfl (im_cons rfl (im_cons (im_tup (im_strs _)) rfl))))
    simp_all! only [decide_eq_true g3, w1, im, hol_some]
    rfl
  rw [if_neg g3]
  simp_all! only [decide_eq_false g3, e1, c2]
  by_cases g4 : f = "vote"
  · rw [if_pos g4]
    obtain ⟨x, r, rfl, hx⟩ := num_first (.inl g4) ho
    have w1 : atI W 1 = some (.str x) := by rw [hW, List.map_cons]; exact ea_at1
    have im : immO (some (.tup [.str f, .int (valT x), .tup (((x :: r).drop 1).map .str)])) = some (.tup [.str f, .int (valT x), .tup (((x :: r).drop 1).map .str)]) := eo_imm (im_tup (im_cons rfl (im_cons rfl (im_cons (im_tup (im_strs _)) rfl))))
    simp_all! only [decide_eq_true g4, w1, int_tx hx, im, hol_some]
    rfl
  rw [if_neg g4]
  simp_all! only [decide_eq_false g4, e3, e4, c2]
  by_cases g5 : f = "out" ∨ f = "raise"
  · rw [if_pos g5]
    obtain ⟨x, r, rfl, hx⟩ := num_first (.inr g5) ho
    have w1 : atI W 1 = some (.str x) := by rw [hW, List.map_cons]; exact ea_at1
    have g6 : (decide (f = Str.ofString "out") || decide (f = Str.ofString "raise")) = true := by rw [Bool.or_eq_true, decide_eq_true_eq, decide_eq_true_eq]; exact g5
    have ct : catO (some (.lst [.str f, .int (valT x)])) (some (.lst (((x :: r).drop 1).map .str))) = some (.str f :: .int (valT x) :: ((x :: r).drop 1).map .str) := eo_cat (by simp; simp at hl; omega)
    have im : immO (some (.tup (.str f :: .int (valT x) :: ((x :: r).drop 1).map .str))) = some (.tup (.str f :: .int (valT x) :: ((x :: r).drop 1).map .str)) := eo_imm (im_tup (im_cons rfl (im_cons rfl (im_strs _))))
    simp_all! only [g6, w1, int_tx hx, ct, im, hol_some]
    rfl
  rw [if_neg g5]
  have g6 : (decide (f = Str.ofString "out") || decide (f = Str.ofString "raise")) = false := by rw [Bool.or_eq_false_iff, decide_eq_false_iff_not, decide_eq_false_iff_not]; exact not_or.mp g5
  have im : immO (some (.tup W)) = some (.tup W) := eo_imm (im_tup (by rw [hW]; exact im_cons rfl (im_strs _)))
  simp_all! only [g6, im, hol_some]
  rw [hW]

/-! what the program asks -/
def kinds : List Str := ["number", "kind", "name", "names"]
theorem kinds_sg : ∀ t ∈ kinds, sgn t := all_sg (by decide +kernel)
/-- the first word as it is wanted -/
def wantB (k : Str) (x : Str) : Bool := if k = "number" then nuB x else if k = "kind" then kdB x else nmB x
def wantV (k : Str) (x : Str) : D := if k = "number" then .int (valT x) else .str x
def strsD (ws : List Str) : D := .lst (ws.map .str)
theorem first_nil {k : Str} (hk : k ∈ kinds) : m_first_as [.str k, strsD []] = some (.exc 2) := by
  refine runX_ex rfl ?_
  have t0 : truthD (strsD []) = some false := rfl
  simp_all! only [g_first_as, t0, hol_some]
  exact ⟨_, rfl⟩
theorem first_cons {k x : Str} {ws : List Str} (hk : k ∈ kinds) (hx : wd 600 x) : m_first_as [.str k, strsD (x :: ws)] = some (if wantB k x = true then .val (wantV k x) else .exc 2) := by
  have hl : x.length ≤ 1000 := Nat.le_trans hx.1 (by decide)
  have e1 := eq_tx (kinds_sg k hk) (sg_of (x := "number") (by decide +kernel))
  have e2 := eq_tx (kinds_sg k hk) (sg_of (x := "kind") (by decide +kernel))
  have t0 : truthD (strsD (x :: ws)) = some true := rfl
  have i0 : ixD (strsD (x :: ws)) (.int 0) = some (.str x) := ea_at0
  have n1 := num_eq hl hx.2
  have n2 := kind_eq hx.2
  have n3 := name_eq hl
  unfold wantB wantV
  by_cases h1 : k = "number"
  · rw [if_pos h1, if_pos h1]
    rw [decide_eq_true h1] at e1
    cases hb : nuB x with
    | true =>
      rw [hb, if_pos rfl] at n1
      refine runX_rt rfl ?_
      simp_all! only [g_first_as, t0, i0, e1, n1, hol_some]
    | false =>
      rw [hb, if_neg Bool.false_ne_true] at n1
      refine runX_ex rfl ?_
      simp_all! only [g_first_as, t0, i0, e1, n1, hol_some]
      exact ⟨_, rfl⟩
  rw [if_neg h1, if_neg h1]
  rw [decide_eq_false h1] at e1
  by_cases h2 : k = "kind"
  · rw [if_pos h2]
    rw [decide_eq_true h2] at e2
    cases hb : kdB x with
    | true =>
      rw [hb, if_pos rfl] at n2
      refine runX_rt rfl ?_
      simp_all! only [g_first_as, t0, i0, e1, e2, n2, hol_some]
    | false =>
      rw [hb, if_neg Bool.false_ne_true] at n2
      refine runX_ex rfl ?_
      simp_all! only [g_first_as, t0, i0, e1, e2, n2, hol_some]
      exact ⟨_, rfl⟩
  rw [if_neg h2]
  rw [decide_eq_false h2] at e2
  cases hb : nmB x with
  | true =>
    rw [hb, if_pos rfl] at n3
    refine runX_rt rfl ?_
    simp_all! only [g_first_as, t0, i0, e1, e2, n3, hol_some]
  | false =>
    rw [hb, if_neg Bool.false_ne_true] at n3
    refine runX_ex rfl ?_
    simp_all! only [g_first_as, t0, i0, e1, e2, n3, hol_some]
    exact ⟨_, rfl⟩
/-- the loop over what is wanted -/
def askL : List Str → List D → List Str → Option (List D × List Str)
  | [], told, left => some (told, left)
  | k :: r, told, left => if k = "names" then (if left.all nmB = true then askL r (told ++ [.tup (left.map .str)]) [] else none) else match left with
    | [] => none
    | x :: xs => if wantB k x = true then askL r (told ++ [wantV k x]) xs else none
section
variable {g h : SS → Option Out} {s : SS} {o : Out}
theorem alt_l (e : g s = some o) : altO g h s = some o := by unfold altO; rw [e]
theorem alt_r (e : g s = none) : altO g h s = h s := by unfold altO; rw [e]
end
theorem compL_none {h : D → Option (Option D)} {x : D} (hx : h x = none) : ∀ {xs : List D}, x ∈ xs → compL h xs = none
  | y :: r, hm => by
    unfold compL
    rcases List.mem_cons.mp hm with rfl | hm
    · rw [hx]; rfl
    · rw [compL_none hx hm]
      cases h y <;> rfl
theorem excL_names {left : List Str} {F : D → Option XO} (hF : ∀ x ∈ left, F (.str x) = some (if nmB x = true then .val (.str x) else .exc 2)) (h : left.all nmB = false) : excL F (left.map .str) = some (.exc 2) := by
  induction left with
  | nil => cases h
  | cons x r ih =>
    rw [List.all_cons] at h
    rw [List.map_cons]
    unfold excL
    rw [hF x List.mem_cons_self]
    cases hb : nmB x with
    | false => rfl
    | true =>
      rw [hb, Bool.true_and] at h
      exact ih (fun y hy => hF y (List.mem_cons_of_mem _ hy)) h

def gB : SS → Option Out := (ifO (dTest (d2 eqD (dVar 4) (dC (.str "names")))) (seqO (altO (m0 2 appF [(dCall tupF [(mkL (dComp (dSeq (dVar 3)) dYes (dCallV m_name_of [(dVar 5)])))])]) (appE 2 (dCompX (dSeq (dVar 3)) (dCallX m_name_of [(dVar 5)]))))
  (asgS 3 (mkL (dArgs [])))) (seqO (altO (app0N 2 (dCallV m_first_as [(dVar 4), (dVar 3)])) (appE 2 (dCallX m_first_as [(dVar 4), (dVar 3)])))
  (asgS 3 (mkL (dCut (dVar 3) (dPart (dC (.int 1))) dNoPart)))))
def rSt (R W : D) (told : List D) (left : List Str) (o : Option SD) : SS := [some (.sh R), some (.sh W), some (.ow (.lst told)), some (.sh (strsD left)), o]
theorem appV {told : List D} {d : D} (h : told.length ≤ 1000) : m0V appF (some (.lst told)) (some [d]) = some (.lst (told ++ [d])) := by
  show (appF told [d]).map D.lst = _
  have : appF told [d] = some (told ++ [d]) := if_pos (by rw [PySem.sizeLine_eq]; omega)
  rw [this]
  rfl
theorem flat1 {d : D} (h : d.imm = true) : flatO (some [d]) = some [d] := eo_flat (im_cons h rfl)
theorem seq_strs {ws : List Str} : seqD (strsD ws) = some (ws.map .str) := (rfl)
theorem valE {c : Nat} : valO (some (.exc c)) = none := (rfl)
section
variable {R W : D} {told : List D} {left : List Str} {k : Str}
theorem names_ok (hk : k = "names") (hl : left.length ≤ 601) (hw : ∀ x ∈ left, wd 600 x) (ht : told.length ≤ 100) (ha : left.all nmB = true) : gB (rSt R W told left (some (.sh (.str k)))) = some (.nx (rSt R W (told ++ [.tup (left.map .str)]) [] (some (.sh (.str k))))) := by
  have e1 : eqD (.str k) (.str "names") = some (.bl true) := by
    rw [hk, eq_tx (sg_of (by decide +kernel)) (sg_of (by decide +kernel)), decide_eq_true rfl]
  have cx : compX (some (left.map .str)) (compF dYes (dCallV m_name_of [dVar 5]) [some R, some W, some (.lst told), some (strsD left), some (.str k)]) = some (left.map .str) := by
    refine cx_all (enc := D.str) (xs := left) D.str (by omega) fun x hx => ?_
    have n3 := name_eq (x := x) (Nat.le_trans (hw x hx).1 (by decide))
    rw [List.all_eq_true.mp ha x hx, if_pos rfl] at n3
    simp! only [n3]
  have al : m0 2 appF [(dCall tupF [(mkL (dComp (dSeq (dVar 3)) dYes (dCallV m_name_of [(dVar 5)])))])] (rSt R W told left (some (.sh (.str k)))) = some (.nx (rSt R W (told ++ [.tup (left.map .str)]) left (some (.sh (.str k))))) := by
    unfold rSt
    simp! only [seq_strs, cx, immsO, flat1 (im_tup (im_strs left)), appV (show told.length ≤ 1000 by omega)]
  unfold gB
  rw [ev_ifO]
  have t : dTest (d2 eqD (dVar 4) (dC (.str "names"))) (allV (rSt R W told left (some (.sh (.str k))))) = some true := by
    unfold rSt
    simp! only [e1]
  rw [t, eo_itet, ev_seqO, alt_l al]
  unfold rSt
  simp! only []
  rfl
theorem names_bad (hk : k = "names") (hl : left.length ≤ 601) (hw : ∀ x ∈ left, wd 600 x) (ha : left.all nmB = false) : ∃ s, gB (rSt R W told left (some (.sh (.str k)))) = some (.ex 2 s) := by
  have e1 : eqD (.str k) (.str "names") = some (.bl true) := by
    rw [hk, eq_tx (sg_of (by decide +kernel)) (sg_of (by decide +kernel)), decide_eq_true rfl]
  have fn : ∀ x ∈ left, dCallX m_name_of [dVar 5] ([some R, some W, some (.lst told), some (strsD left), some (.str k)] ++ [some (.str x)]) = some (if nmB x = true then .val (.str x) else .exc 2) := fun x hx => by
    have n3 := name_eq (x := x) (Nat.le_trans (hw x hx).1 (by decide))
    simp! only [n3]
  have cx : compX (some (left.map .str)) (compF dYes (dCallV m_name_of [dVar 5]) [some R, some W, some (.lst told), some (strsD left), some (.str k)]) = none := by
    obtain ⟨x, hx, hb⟩ : ∃ x ∈ left, nmB x = false := by
      have := List.all_eq_false.mp ha
      obtain ⟨x, hx, hb⟩ := this
      exact ⟨x, hx, by simpa using hb⟩
    show (if (left.map D.str).length ≤ sizeLine then compL _ (left.map .str) else none) = none
    have : compF dYes (dCallV m_name_of [dVar 5]) [some R, some W, some (.lst told), some (strsD left), some (.str k)] (.str x) = none := by
      have f := fn x hx
      rw [hb, if_neg Bool.false_ne_true] at f
      unfold compF
      show (if true = true then (valO (dCallX m_name_of [dVar 5] _)).map some else some none) = none
      rw [if_pos rfl, f]
      rfl
    rw [compL_none this (List.mem_map.mpr ⟨x, hx, rfl⟩)]
    split <;> rfl
  have al : m0 2 appF [(dCall tupF [(mkL (dComp (dSeq (dVar 3)) dYes (dCallV m_name_of [(dVar 5)])))])] (rSt R W told left (some (.sh (.str k)))) = none := by
    unfold rSt
    simp! only [seq_strs, cx]
    rfl
  have ar : appE 2 (dCompX (dSeq (dVar 3)) (dCallX m_name_of [(dVar 5)])) (rSt R W told left (some (.sh (.str k)))) = some (.ex 2 (rSt R W told left (some (.sh (.str k))))) := by
    have ax : dCompX (dSeq (dVar 3)) (dCallX m_name_of [dVar 5]) [some R, some W, some (.lst told), some (strsD left), some (.str k)] = some (.exc 2) := by
      unfold dCompX
      have : dSeq (dVar 3) [some R, some W, some (.lst told), some (strsD left), some (.str k)] = some (left.map .str) := by simp! only [seq_strs]
      rw [this, Option.bind_some, if_pos (by rw [List.length_map]; omega)]
      exact excL_names fn ha
    show excO _ (rSt R W told left (some (.sh (.str k)))) = _
    unfold excO
    have av : allV (rSt R W told left (some (.sh (.str k)))) = [some R, some W, some (.lst told), some (strsD left), some (.str k)] := rfl
    rw [av, ax]
    rfl
  unfold gB
  rw [ev_ifO]
  have t : dTest (d2 eqD (dVar 4) (dC (.str "names"))) (allV (rSt R W told left (some (.sh (.str k))))) = some true := by
    unfold rSt
    simp! only [e1]
  rw [t, eo_itet, ev_seqO, alt_r al, ar]
  exact ⟨_, rfl⟩
theorem first_t (hk : k ∈ kinds) (hn : ¬ k = "names") : dTest (d2 eqD (dVar 4) (dC (.str "names"))) (allV (rSt R W told left (some (.sh (.str k))))) = some false := by
  have e1 : eqD (.str k) (.str "names") = some (.bl false) := by
    rw [eq_tx (kinds_sg k hk) (sg_of (by decide +kernel)), decide_eq_false hn]
  unfold rSt
  simp! only [e1]
theorem first_ok {x : Str} {xs : List Str} (hk : k ∈ kinds) (hn : ¬ k = "names") (hx : wd 600 x) (ht : told.length ≤ 100) (hb : wantB k x = true) : gB (rSt R W told (x :: xs) (some (.sh (.str k)))) = some (.nx (rSt R W (told ++ [wantV k x]) xs (some (.sh (.str k))))) := by
  have f1 := first_cons (ws := xs) hk hx
  rw [hb, if_pos rfl] at f1
  have al : app0N 2 (dCallV m_first_as [(dVar 4), (dVar 3)]) (rSt R W told (x :: xs) (some (.sh (.str k)))) = some (.nx (rSt R W (told ++ [wantV k x]) (x :: xs) (some (.sh (.str k))))) := by
    unfold rSt
    simp! only [f1, appV (show told.length ≤ 1000 by omega)]
  have c1 : cut3 (some (strsD (x :: xs))) (some (some 1)) (some none) = some (xs.map .str) := congrArg some cut1
  unfold gB
  rw [ev_ifO, first_t hk hn, eo_itef, ev_seqO, alt_l al]
  unfold rSt
  simp! only [c1]
  rfl
theorem first_bad {o : Nat} (hk : k ∈ kinds) (hn : ¬ k = "names") (f1 : m_first_as [.str k, strsD left] = some (.exc 2)) : ∃ s, gB (rSt R W told left (some (.sh (.str k)))) = some (.ex 2 s) := by
  have al : app0N 2 (dCallV m_first_as [(dVar 4), (dVar 3)]) (rSt R W told left (some (.sh (.str k)))) = none := by
    unfold rSt
    simp! only [f1, valE]
    rfl
  have ar : appE 2 (dCallX m_first_as [(dVar 4), (dVar 3)]) (rSt R W told left (some (.sh (.str k)))) = some (.ex 2 (rSt R W told left (some (.sh (.str k))))) := by
    show excO _ (rSt R W told left (some (.sh (.str k)))) = _
    unfold excO
    have av : allV (rSt R W told left (some (.sh (.str k)))) = [some R, some W, some (.lst told), some (strsD left), some (.str k)] := rfl
    have : dCallX m_first_as [dVar 4, dVar 3] [some R, some W, some (.lst told), some (strsD left), some (.str k)] = some (.exc 2) := by simp! only [f1]
    rw [av, this]
    rfl
  unfold gB
  rw [ev_ifO, first_t hk hn, eo_itef, ev_seqO, alt_r al, ar]
  exact ⟨_, rfl⟩
end
theorem fD_nx {i : Nat} {b : SS → Option Out} {x : D} {r : List D} {s s' : SS} (e : b (s.set i (some (.sh x))) = some (.nx s')) : forD i b (x :: r) s = forD i b r s' := by
  conv => lhs; unfold forD
  rw [e]
  rfl
theorem loop_eq {R W : D} : ∀ (wl : List Str) (told : List D) (left : List Str) (o : Option SD), (∀ k ∈ wl, k ∈ kinds) → (∀ x ∈ left, wd 600 x) → left.length ≤ 601 → told.length + wl.length ≤ 100 →
    match askL wl told left with
    | some (t, l) => ∃ o', forD 4 gB (wl.map .str) (rSt R W told left o) = some (.nx (rSt R W t l o'))
    | none => ∃ s, forD 4 gB (wl.map .str) (rSt R W told left o) = some (.ex 2 s)
  | [], told, left, o, _, _, _, _ => ⟨o, rfl⟩
  | k :: r, told, left, o, hk, hw, hl, ht => by
    have hk0 := hk k List.mem_cons_self
    have hkr : ∀ k ∈ r, k ∈ kinds := fun z hz => hk z (List.mem_cons_of_mem _ hz)
    rw [List.length_cons] at ht
    have go : ∀ {s' : SS}, gB (rSt R W told left (some (.sh (.str k)))) = some (.nx s') → forD 4 gB ((k :: r).map .str) (rSt R W told left o) = forD 4 gB (r.map .str) s' := fun e => by
      rw [List.map_cons]
      exact fD_nx e
    have ex : (∃ s, gB (rSt R W told left (some (.sh (.str k)))) = some (.ex 2 s)) → ∃ s, forD 4 gB ((k :: r).map .str) (rSt R W told left o) = some (.ex 2 s) := fun ⟨s, e⟩ => by
      rw [List.map_cons]
      have e : gB ((rSt R W told left o).set 4 (some (.sh (.str k)))) = _ := e
      unfold forD
      rw [e]
      exact ⟨_, rfl⟩
    unfold askL
    by_cases hn : k = "names"
    · rw [if_pos hn]
      cases ha : left.all nmB with
      | true =>
        rw [if_pos rfl, go (names_ok hn hl hw (by omega) ha)]
        exact loop_eq r _ [] _ hkr (fun x hx => nomatch hx) (Nat.zero_le _) (by simp; omega)
      | false =>
        rw [if_neg Bool.false_ne_true]
        exact ex (names_bad hn hl hw ha)
    · rw [if_neg hn]
      cases left with
      | nil => exact ex (first_bad (o := 0) hk0 hn (first_nil hk0))
      | cons x xs =>
        have hx := hw x List.mem_cons_self
        dsimp only
        cases hb : wantB k x with
        | true =>
          rw [if_pos rfl, go (first_ok hk0 hn hx (by omega) hb)]
          refine loop_eq r _ xs _ hkr (fun y hy => hw y (List.mem_cons_of_mem _ hy)) ?_ (by simp; omega)
          rw [List.length_cons] at hl
          omega
        | false =>
          rw [if_neg Bool.false_ne_true]
          have f1 := first_cons (ws := xs) hk0 hx
          rw [hb, if_neg Bool.false_ne_true] at f1
          exact ex (first_bad (o := 0) hk0 hn f1)

/-! the two are one -/
def ansX (f : Str) (ws : List Str) : XO := match lookW want_WANTED f with
  | none => .exc 2
  | some wl => match askL wl [.str f] ws with
    | some (t, []) => .val (.tup t)
    | _ => .exc 2
theorem look_kinds {f : Str} {wl : List Str} (h : lookW want_WANTED f = some wl) : (∀ k ∈ wl, k ∈ kinds) ∧ wl.length ≤ 90 := by
  unfold lookW at h
  obtain ⟨p, hp, rfl⟩ := Option.map_eq_some_iff.mp h
  have hm := List.mem_of_find?_eq_some hp
  have : (want_WANTED.all fun p => (p.2.all fun k => decide (k ∈ kinds)) && decide (p.2.length ≤ 90)) = true := by decide +kernel
  have h2 := List.all_eq_true.mp this p hm
  rw [Bool.and_eq_true, List.all_eq_true, decide_eq_true_eq] at h2
  exact ⟨fun k hk => of_decide_eq_true (h2.1 k hk), h2.2⟩
theorem look_none {f : Str} (h : ¬ f ∈ fifteen) : lookW want_WANTED f = none := by
  unfold lookW
  have : want_WANTED.find? (fun p => decide (p.1 = f)) = none := by
    rw [List.find?_eq_none]
    intro p hp hd
    have e : p.1 = f := of_decide_eq_true hd
    have : (want_WANTED.all fun p => decide (p.1 ∈ fifteen)) = true := by decide +kernel
    exact h (e ▸ of_decide_eq_true (List.all_eq_true.mp this p hp))
  rw [this]
  rfl
theorem imms_app : ∀ {xs ys : List D}, imms xs = true → imms ys = true → imms (xs ++ ys) = true
  | [], _, _, h => h
  | x :: r, ys, h1, h2 => by
    unfold imms at h1
    rw [Bool.and_eq_true] at h1
    exact im_cons h1.1 (imms_app h1.2 h2)
theorem wantV_imm {k x : Str} : (wantV k x).imm = true := by unfold wantV; split <;> rfl
theorem askL_imm : ∀ {wl : List Str} {told t : List D} {left l : List Str}, askL wl told left = some (t, l) → imms told = true → imms t = true
  | [], told, t, left, l, h, hi => by cases h; exact hi
  | k :: r, told, t, left, l, h, hi => by
    unfold askL at h
    split at h
    · split at h
      · exact askL_imm h (imms_app hi (im_cons (im_tup (im_strs _)) rfl))
      · cases h
    · split at h
      · cases h
      · split at h
        · exact askL_imm h (imms_app hi (im_cons wantV_imm rfl))
        · cases h
theorem asked_eq {row f : Str} {ws : List Str} (hw : splS (.str row) (.str " ") = some (D.str f :: ws.map .str)) (hl : ws.length ≤ 601) (hws : ∀ z ∈ ws, wd 600 z) : m_row_asked [.str row] = some (ansX f ws) := by
  obtain ⟨W, hW⟩ : ∃ W, W = D.str f :: ws.map D.str := ⟨_, rfl⟩
  rw [← hW] at hw
  have sp : ∀ δ, dSpl (dVar 0) (dC (.str " ")) (some (.str row) :: δ) = some W := fun δ => (ev_spl rfl rfl).trans hw
  have w0 : atI W 0 = some (.str f) := by rw [hW]; exact ea_at0
  have c1 : cutL W (some 1) none = ws.map .str := by rw [hW]; exact cut1
  have nw : nwantF want_WANTED (.str f) = some (.bl (!(lookW want_WANTED f).isSome)) := (rfl)
  have fl : flatO (some [D.str f]) = some [D.str f] := flat1 rfl
  unfold ansX
  cases hk : lookW want_WANTED f with
  | none =>
    rw [hk] at nw
    have nw : nwantF want_WANTED (.str f) = some (.bl true) := nw
    refine runX_ex rfl ?_
    simp_all! only [g_row_asked, sp, w0, nw, hol_some]
    exact ⟨_, rfl⟩
  | some wl =>
    rw [hk] at nw
    have nw : nwantF want_WANTED (.str f) = some (.bl false) := nw
    have wt : wantF want_WANTED (.str f) = some (.tup (wl.map .str)) := by
      show (lookW want_WANTED f).map _ = _
      rw [hk]
      rfl
    obtain ⟨k1, k2⟩ := look_kinds hk
    have lp := fun o => loop_eq (R := .str row) (W := .lst W) wl [.str f] ws o k1 hws hl (by simp; omega)
    dsimp only
    cases ha : askL wl [.str f] ws with
    | none =>
      rw [ha] at lp
      dsimp only
      obtain ⟨s, e⟩ := lp none
      have e : forD 4 gB (wl.map .str) [some (.sh (.str row)), some (.sh (.lst W)), some (.ow (.lst [.str f])), some (.sh (.lst (ws.map .str))), none] = some (.ex 2 s) := e
      unfold gB at e
      refine runX_ex rfl ?_
      simp_all! only [g_row_asked, sp, w0, nw, fl, c1, wt, e, hol_some]
      exact ⟨_, rfl⟩
    | some p =>
      obtain ⟨t, l⟩ := p
      rw [ha] at lp
      obtain ⟨o', e⟩ := lp none
      have e : forD 4 gB (wl.map .str) [some (.sh (.str row)), some (.sh (.lst W)), some (.ow (.lst [.str f])), some (.sh (.lst (ws.map .str))), none] = some (.nx [some (.sh (.str row)), some (.sh (.lst W)), some (.ow (.lst t)), some (.sh (strsD l)), o']) := e
      unfold gB at e
      cases l with
      | nil =>
        dsimp only
        refine runX_rt rfl ?_
        have im : immO (some (.tup t)) = some (.tup t) := eo_imm (im_tup (askL_imm ha rfl))
        have t0 : truthD (strsD []) = some false := rfl
        simp_all! only [g_row_asked, sp, w0, nw, fl, c1, wt, e, t0, im, hol_some]
      | cons x xs =>
        dsimp only
        refine runX_ex rfl ?_
        have t0 : truthD (strsD (x :: xs)) = some true := rfl
        simp_all! only [g_row_asked, sp, w0, nw, fl, c1, wt, e, t0, hol_some]
        exact ⟨_, rfl⟩

theorem ask_names {r : List Str} {told : List D} {left : List Str} : askL ("names" :: r) told left = if left.all nmB = true then askL r (told ++ [.tup (left.map .str)]) [] else none := by
  conv => lhs; unfold askL
  rw [if_pos rfl]
theorem ask_nil {k : Str} (h : ¬ k = "names") {r : List Str} {told : List D} : askL (k :: r) told [] = none := by
  unfold askL
  rw [if_neg h]
theorem ask_cons {k : Str} (h : ¬ k = "names") {r : List Str} {told : List D} {x : Str} {xs : List Str} : askL (k :: r) told (x :: xs) = if wantB k x = true then askL r (told ++ [wantV k x]) xs else none := by
  conv => lhs; unfold askL
  rw [if_neg h]
theorem ask_end {told : List D} {left : List Str} : askL [] told left = some (told, left) := by unfold askL; rfl
theorem n1 : ¬ Str.ofString "number" = "names" := by decide +kernel
theorem n2 : ¬ Str.ofString "kind" = "names" := by decide +kernel
theorem n3 : ¬ Str.ofString "name" = "names" := by decide +kernel
theorem wb1 {x : Str} : wantB "number" x = nuB x := if_pos rfl
theorem wb2 {x : Str} : wantB "kind" x = kdB x := (if_neg (by decide +kernel)).trans (if_pos rfl)
theorem wb3 {x : Str} : wantB "name" x = nmB x := (if_neg (by decide +kernel)).trans (if_neg (by decide +kernel))
theorem wv1 {x : Str} : wantV "number" x = .int (valT x) := if_pos rfl
theorem wv2 {x : Str} : wantV "kind" x = .str x := if_neg (by decide +kernel)
theorem wv3 {x : Str} : wantV "name" x = .str x := if_neg (by decide +kernel)
theorem is_n {x : Str} : isB 110 x = nmB x := (if_neg (by decide)).trans (if_neg (by decide))
theorem is_f {x : Str} : isB 102 x = nuB x := (if_neg (by decide)).trans (if_pos rfl)
theorem is_k {x : Str} : isB 107 x = kdB x := if_pos rfl
theorem okL_rep : ∀ {ws : List Str}, okL (List.replicate ws.length 110) ws = ws.all nmB
  | [] => rfl
  | x :: r => by
    rw [List.length_cons, List.replicate_succ, List.all_cons, ← okL_rep, ← is_n]
    rfl
theorem okL_nil {ws : List Str} : okL [] ws = ws.isEmpty := by cases ws <;> rfl
theorem okL_cc {c : Nat} {r : List Nat} {w : Str} {ws : List Str} : okL (c :: r) (w :: ws) = (isB c w && okL r ws) := rfl
theorem shv {n : Nat} : (shT "vote" n).cps.toList = 102 :: List.replicate n 110 := by
  have s1 : (Str.ofString "f").cps.toList = [102] := by decide +kernel
  unfold shT
  rw [if_pos rfl, cat_list, s1, nS_list]
  rfl
theorem shc {n : Nat} : (shT "chair" n).cps.toList = 107 :: List.replicate n 110 := by
  have s1 : (Str.ofString "k").cps.toList = [107] := by decide +kernel
  unfold shT
  rw [if_neg (by decide +kernel), if_neg (by decide +kernel), if_neg (by decide +kernel), if_neg (by decide +kernel), if_pos rfl, cat_list, s1, nS_list]
  rfl
theorem sho {n : Nat} : (shT "out" n).cps.toList = [102] := by
  unfold shT
  rw [if_neg (by decide +kernel), if_pos rfl]
  decide +kernel
theorem shr {n : Nat} : (shT "raise" n).cps.toList = [102, 110] := by
  unfold shT
  rw [if_neg (by decide +kernel), if_neg (by decide +kernel), if_pos rfl]
  decide +kernel
theorem shb {n : Nat} : (shT "beats" n).cps.toList = [110, 110] := by
  unfold shT
  rw [if_neg (by decide +kernel), if_neg (by decide +kernel), if_neg (by decide +kernel), if_pos rfl]
  decide +kernel
/-- none of the five -/
def noneB (f : Str) : Bool := !decide ("vote" = f) && !decide ("out" = f) && !decide ("raise" = f) && !decide ("beats" = f) && !decide ("chair" = f)
theorem none_of {f : Str} (h : noneB f = true) : ¬ Str.ofString "vote" = f ∧ ¬ Str.ofString "out" = f ∧ ¬ Str.ofString "raise" = f ∧ ¬ Str.ofString "beats" = f ∧ ¬ Str.ofString "chair" = f := by
  unfold noneB at h
  simp only [Bool.and_eq_true, Bool.not_eq_true', decide_eq_false_iff_not] at h
  exact ⟨h.1.1.1.1, h.1.1.1.2, h.1.1.2, h.1.2, h.2⟩
theorem few_of {f : Str} {ws : List Str} (h : noneB f = true) : fewI f ws = (ws.length : Int) := by
  obtain ⟨h1, _, _, _, h5⟩ := none_of h
  unfold fewI
  rw [if_neg]
  rintro (h | h)
  · exact h1 h.symm
  · exact h5 h.symm
def resX (f : Str) (ws : List Str) : XO := if goodB f ws = true then .val (.tup (resD f ws)) else .exc 2
def endX : Option (List D × List Str) → XO
  | some (t, []) => .val (.tup t)
  | _ => .exc 2
theorem ans_of {f : Str} {ws : List Str} {wl : List Str} (h : lookW want_WANTED f = some wl) : ansX f ws = endX (askL wl [.str f] ws) := by
  unfold ansX
  rw [h]
  show (match askL wl [.str f] ws with | some (t, []) => XO.val (.tup t) | _ => .exc 2) = _
  rcases askL wl [.str f] ws with _ | ⟨t, _ | ⟨x, xs⟩⟩ <;> rfl
theorem good_of {f : Str} {ws : List Str} (h : f ∈ fifteen) (h2 : 0 ≤ fewI f ws) : goodB f ws = okL (shF f ws) ws := by
  unfold goodB
  rw [decide_eq_true h, decide_eq_true h2]
  rfl
/-- plain, ahead, rest -/
theorem case_three {f : Str} {ws : List Str} (h : noneB f = true) (h3 : f ∈ three) (h15 : f ∈ fifteen) (hl : lookW want_WANTED f = some (["names"] : List Str)) : ansX f ws = resX f ws := by
  obtain ⟨a1, a2, a3, a4, a5⟩ := none_of h
  have hf := few_of (ws := ws) h
  have e : shF f ws = List.replicate ws.length 110 := by
    unfold shF shT
    rw [hf, if_neg a1, if_neg a2, if_neg a3, if_neg a4, if_neg a5, if_pos h3, nS_list]
    rfl
  unfold resX
  rw [ans_of hl, good_of h15 (by omega), e, okL_rep, ask_names]
  cases ws.all nmB with
  | false => rfl
  | true =>
    rw [if_pos rfl, if_pos rfl, ask_end]
    unfold resD
    rw [if_pos h3]
    rfl
/-- the words alone -/
theorem case_alone {f : Str} {ws : List Str} (h : noneB f = true) (h3 : ¬ f ∈ three) (h15 : f ∈ fifteen) (hl : lookW want_WANTED f = some []) : ansX f ws = resX f ws := by
  obtain ⟨a1, a2, a3, a4, a5⟩ := none_of h
  have hf := few_of (ws := ws) h
  have e : shF f ws = [] := by
    unfold shF shT
    rw [hf, if_neg a1, if_neg a2, if_neg a3, if_neg a4, if_neg a5, if_neg h3]
    decide +kernel
  unfold resX
  rw [ans_of hl, good_of h15 (by omega), e, okL_nil, ask_end]
  cases ws with
  | cons x xs => rfl
  | nil =>
    show XO.val (.tup [.str f]) = XO.val (.tup (resD f []))
    unfold resD
    rw [if_neg h3, if_neg (fun z => a5 z.symm), if_neg (fun z => a1 z.symm), if_neg (fun z => z.elim (fun z => a2 z.symm) fun z => a3 z.symm)]
    rfl
theorem case_vote {ws : List Str} : ansX "vote" ws = resX "vote" ws := by
  have h15 : Str.ofString "vote" ∈ fifteen := by decide +kernel
  have hl : lookW want_WANTED "vote" = some (["number", "names"] : List Str) := by decide +kernel
  have hf : fewI "vote" ws = (ws.length : Int) - 1 := if_pos (.inl rfl)
  rw [ans_of hl]
  unfold resX
  cases ws with
  | nil =>
    have : goodB "vote" [] = false := by
      unfold goodB
      rw [hf]
      decide +kernel
    rw [this, ask_nil n1]
    rfl
  | cons x xs =>
    have hn : (fewI "vote" (x :: xs)).toNat = xs.length := by rw [hf, List.length_cons]; omega
    rw [good_of h15 (by rw [hf, List.length_cons]; omega)]
    unfold shF
    rw [hn, shv, okL_cc, is_f, okL_rep, ask_cons n1, wb1, wv1]
    cases nuB x with
    | false => rfl
    | true =>
      rw [if_pos rfl, Bool.true_and, ask_names, ask_end]
      cases xs.all nmB with
      | false => rfl
      | true =>
        rw [if_pos rfl, if_pos rfl]
        unfold resD
        rw [if_neg (by decide +kernel), if_neg (by decide +kernel), if_pos rfl]
        rfl
theorem case_chair {ws : List Str} : ansX "chair" ws = resX "chair" ws := by
  have h15 : Str.ofString "chair" ∈ fifteen := by decide +kernel
  have hl : lookW want_WANTED "chair" = some (["kind", "names"] : List Str) := by decide +kernel
  have hf : fewI "chair" ws = (ws.length : Int) - 1 := if_pos (.inr rfl)
  rw [ans_of hl]
  unfold resX
  cases ws with
  | nil =>
    have : goodB "chair" [] = false := by
      unfold goodB
      rw [hf]
      decide +kernel
    rw [this, ask_nil n2]
    rfl
  | cons x xs =>
    have hn : (fewI "chair" (x :: xs)).toNat = xs.length := by rw [hf, List.length_cons]; omega
    rw [good_of h15 (by rw [hf, List.length_cons]; omega)]
    unfold shF
    rw [hn, shc, okL_cc, is_k, okL_rep, ask_cons n2, wb2, wv2]
    cases kdB x with
    | false => rfl
    | true =>
      rw [if_pos rfl, Bool.true_and, ask_names, ask_end]
      cases xs.all nmB with
      | false => rfl
      | true =>
        rw [if_pos rfl, if_pos rfl]
        unfold resD
        rw [if_neg (by decide +kernel), if_pos rfl]
        rfl
theorem few_len {f : Str} {ws : List Str} (h1 : ¬ f = "vote") (h2 : ¬ f = "chair") : fewI f ws = (ws.length : Int) := by
  unfold fewI
  rw [if_neg]
  rintro (h | h)
  · exact h1 h
  · exact h2 h
theorem case_out {ws : List Str} : ansX "out" ws = resX "out" ws := by
  have h15 : Str.ofString "out" ∈ fifteen := by decide +kernel
  have hl : lookW want_WANTED "out" = some (["number"] : List Str) := by decide +kernel
  have hf := few_len (f := "out") (ws := ws) (by decide +kernel) (by decide +kernel)
  rw [ans_of hl]
  unfold resX
  rw [good_of h15 (by omega)]
  unfold shF
  rw [sho]
  cases ws with
  | nil => rw [ask_nil n1]; rfl
  | cons x xs =>
    rw [okL_cc, is_f, okL_nil, ask_cons n1, wb1, wv1]
    cases nuB x with
    | false => rfl
    | true =>
      rw [if_pos rfl, Bool.true_and, ask_end]
      cases xs with
      | cons y ys => rfl
      | nil =>
        rw [if_pos (by rfl)]
        unfold resD
        rw [if_neg (by decide +kernel), if_neg (by decide +kernel), if_neg (by decide +kernel), if_pos (.inl rfl)]
        rfl
theorem case_raise {ws : List Str} : ansX "raise" ws = resX "raise" ws := by
  have h15 : Str.ofString "raise" ∈ fifteen := by decide +kernel
  have hl : lookW want_WANTED "raise" = some (["number", "name"] : List Str) := by decide +kernel
  have hf := few_len (f := "raise") (ws := ws) (by decide +kernel) (by decide +kernel)
  rw [ans_of hl]
  unfold resX
  rw [good_of h15 (by omega)]
  unfold shF
  rw [shr]
  cases ws with
  | nil => rw [ask_nil n1]; rfl
  | cons x xs =>
    rw [okL_cc, is_f, ask_cons n1, wb1, wv1]
    cases nuB x with
    | false => rfl
    | true =>
      rw [if_pos rfl, Bool.true_and]
      cases xs with
      | nil => rw [ask_nil n3]; rfl
      | cons y ys =>
        rw [okL_cc, is_n, okL_nil, ask_cons n3, wb3, wv3]
        cases nmB y with
        | false => rfl
        | true =>
          rw [if_pos rfl, Bool.true_and, ask_end]
          cases ys with
          | cons z zs => rfl
          | nil =>
            rw [if_pos (by rfl)]
            unfold resD
            rw [if_neg (by decide +kernel), if_neg (by decide +kernel), if_neg (by decide +kernel), if_pos (.inr rfl)]
            rfl
theorem case_beats {ws : List Str} : ansX "beats" ws = resX "beats" ws := by
  have h15 : Str.ofString "beats" ∈ fifteen := by decide +kernel
  have hl : lookW want_WANTED "beats" = some (["name", "name"] : List Str) := by decide +kernel
  have hf := few_len (f := "beats") (ws := ws) (by decide +kernel) (by decide +kernel)
  rw [ans_of hl]
  unfold resX
  rw [good_of h15 (by omega)]
  unfold shF
  rw [shb]
  cases ws with
  | nil => rw [ask_nil n3]; rfl
  | cons x xs =>
    rw [okL_cc, is_n, ask_cons n3, wb3, wv3]
    cases nmB x with
    | false => rfl
    | true =>
      rw [if_pos rfl, Bool.true_and]
      cases xs with
      | nil => rw [ask_nil n3]; rfl
      | cons y ys =>
        rw [okL_cc, is_n, okL_nil, ask_cons n3, wb3, wv3]
        cases nmB y with
        | false => rfl
        | true =>
          rw [if_pos rfl, Bool.true_and, ask_end]
          cases ys with
          | cons z zs => rfl
          | nil =>
            rw [if_pos (by rfl)]
            unfold resD
            rw [if_neg (by decide +kernel), if_neg (by decide +kernel), if_neg (by decide +kernel), if_neg (by decide +kernel)]
            rfl
theorem ans_eq {f : Str} {ws : List Str} : ansX f ws = resX f ws := by
  by_cases h : f ∈ fifteen
  · have al : ∀ g : Str, (noneB g && !decide (g ∈ three) && decide (g ∈ fifteen) && decide (lookW want_WANTED g = some [])) = true → ansX g ws = resX g ws := fun g hg => by
      simp only [Bool.and_eq_true, Bool.not_eq_true', decide_eq_true_eq, decide_eq_false_iff_not] at hg
      exact case_alone hg.1.1.1 hg.1.1.2 hg.1.2 hg.2
    have th : ∀ g : Str, (noneB g && decide (g ∈ three) && decide (g ∈ fifteen) && decide (lookW want_WANTED g = some (["names"] : List Str))) = true → ansX g ws = resX g ws := fun g hg => by
      simp only [Bool.and_eq_true, decide_eq_true_eq] at hg
      exact case_three hg.1.1.1 hg.1.1.2 hg.1.2 hg.2
    have h' := h
    unfold fifteen at h'
    simp only [List.mem_cons, List.not_mem_nil, or_false] at h'
    rcases h' with h | h | h | h | h | h | h | h | h | h | h | h | h | h | h <;> subst h
    · exact case_vote
    · exact case_out
    · exact case_raise
    · exact al _ (by decide +kernel)
    · exact case_beats
    · exact al _ (by decide +kernel)
    · exact al _ (by decide +kernel)
    · exact al _ (by decide +kernel)
    · exact al _ (by decide +kernel)
    · exact th _ (by decide +kernel)
    · exact th _ (by decide +kernel)
    · exact th _ (by decide +kernel)
    · exact case_chair
    · exact al _ (by decide +kernel)
    · exact al _ (by decide +kernel)
  · unfold ansX resX
    have : goodB f ws = false := by
      unfold goodB
      rw [decide_eq_false h]
      rfl
    rw [this, look_none h]
    rfl

/-! the rows that are drawn -/
def wdB (n : Nat) (x : Str) : Bool := decide (x.length ≤ n) && sgB x
theorem wd_of {n : Nat} {x : Str} (h : wdB n x = true) : wd n x := by
  unfold wdB at h
  rw [Bool.and_eq_true, decide_eq_true_eq] at h
  exact ⟨h.1, sg_of h.2⟩
theorem at_strs {ts : List Str} {r : Int} {n : Nat} (h0 : 0 ≤ r) (h1 : r < (ts.length : Int)) (hw : ts.all (wdB n) = true) : ∃ x, atI (ts.map D.str) r = some (.str x) ∧ wd n x := by
  obtain ⟨k, rfl⟩ := Int.eq_ofNat_of_zero_le h0
  have hk : k < ts.length := by omega
  refine ⟨ts[k], atI_nat (by simp [hk]), wd_of (List.all_eq_true.mp hw _ (List.getElem_mem hk))⟩
def elS : Str × Option Int → Str
  | (i, none) => i
  | (i, some n) => repT i n
def elOk : Str × Option Int → Bool
  | (_, none) => true
  | (i, some n) => decide (i.length = 1 ∧ n ≤ 1000 ∧ -1000 ≤ n)
theorem el_eq {δ : DS} : ∀ {p : Str × Option Int}, elOk p = true → elD p δ = some (.str (elS p))
  | (i, none), _ => rfl
  | (i, some n), h => by
    have h := of_decide_eq_true h
    show mulS (.str i) (.int n) = _
    exact if_pos h
theorem args_el {δ : DS} : ∀ {l : List (Str × Option Int)}, l.all elOk = true → dArgs (l.map elD) δ = some ((l.map elS).map .str)
  | [], _ => rfl
  | p :: r, h => by
    rw [List.all_cons, Bool.and_eq_true] at h
    have ih := args_el (δ := δ) h.2
    show ((elD p δ).bind fun x => (dArgs (r.map elD) δ).bind fun xs => some (x :: xs)) = _
    rw [ih, el_eq h.1]
    rfl
theorem hol_bi {b : Bool} {d : D} {s : SS} {g : SS → Option Out} {Q : Out → Prop} (h1 : Q (.rt d)) (h2 : hol (g s) Q) : hol (bindO (iteO (some b) (some (.rt d)) (some (.nx s))) g) Q := by
  cases b
  · exact h2
  · exact ⟨_, rfl, h1⟩
def isWd (n : Nat) (d : D) : Prop := ∃ x : Str, d = .str x ∧ wd n x
def oddL : List (Str × Option Int) := [("", none), ("A", none), ("a1", none), ("00", none), ("01", none), ("-1", none), ("+1", none), ("1_0", none), ("abcdefghijklm", none), ("1", some 32), ("\t", none), ("1.", none), ("a b", none), ("0", none)]
def sevenL : List Str := ["a", "bc", "vote", "back", "plain", "thing", "abcdefghijkl"]
def sixL : List Str := ["a", "bc", "vote", "rest", "thing", "abcdefghijkl"]
theorem word_is {c : Int} (h0 : 0 ≤ c) (h1 : c < 10 ^ 39) : hol (m__law_word [.int c]) (isWd 40) := by
  refine hol_run rfl ?_
  have p31 : powI (.int 10) (.int 31) = some (.int (10 ^ 31)) := pow_lit 31 (by omega)
  obtain ⟨a31, e31⟩ : ∃ a : Int, a = 10 ^ 31 := ⟨_, rfl⟩
  rw [← e31] at p31
  obtain ⟨md, hmd, _⟩ := mod_big (c := c) (n := 8) (by omega)
  obtain ⟨r, er⟩ : ∃ r : Int, r = c / 8 := ⟨_, rfl⟩
  have d8 : divI (.int c) (.int 8) = some (.int r) := by rw [er]; exact ea_div ⟨by omega, by omega⟩
  obtain ⟨r31, hr31, q0, q1⟩ := mod_big (c := r) (n := a31) (by rw [e31]; decide)
  obtain ⟨r7, hr7, u0, u1⟩ := mod_big (c := r) (n := 7) (by omega)
  obtain ⟨r3, hr3, v0, v1⟩ := mod_big (c := r) (n := 3) (by omega)
  obtain ⟨r12, hr12, w0, w1⟩ := mod_big (c := r) (n := 12) (by omega)
  obtain ⟨r14, hr14, z0, z1⟩ := mod_big (c := r) (n := 14) (by omega)
  obtain ⟨_, s1, t1, rfl, l1, g1⟩ := str_num q0 (show r31 < 10 ^ 40 by omega)
  obtain ⟨_, s2, t2, rfl, l2, g2⟩ := str_num w0 (show r12 < 10 ^ 40 by omega)
  obtain ⟨x7, e7, k7⟩ := at_strs (ts := sevenL) (n := 40) u0 u1 (by decide +kernel)
  obtain ⟨x3, e3, k3⟩ := at_strs (ts := three) (n := 40) v0 v1 (by decide +kernel)
  obtain ⟨xo, eo, ko⟩ := at_strs (ts := oddL.map elS) (n := 40) z0 z1 (by decide +kernel)
  obtain ⟨L7, hL7⟩ : ∃ L, L = sevenL.map D.str := ⟨_, rfl⟩
  obtain ⟨L3, hL3⟩ : ∃ L, L = three.map D.str := ⟨_, rfl⟩
  obtain ⟨Lo, hLo⟩ : ∃ L, L = (oddL.map elS).map D.str := ⟨_, rfl⟩
  rw [← hL7] at e7
  rw [← hL3] at e3
  rw [← hLo] at eo
  have f7 : ∀ δ, dLitS ["a", "bc", "vote", "back", "plain", "thing", "abcdefghijkl"] δ = some L7 := fun δ => by rw [hL7]; rfl
  have f3 : ∀ δ, dLitS ["plain", "ahead", "rest"] δ = some L3 := fun δ => by rw [hL3]; rfl
  have fo : ∀ δ, dArgs (List.map elD [("", none), ("A", none), ("a1", none), ("00", none), ("01", none), ("-1", none), ("+1", none), ("1_0", none), ("abcdefghijklm", none), ("1", some 32), ("\t", none), ("1.", none), ("a b", none), ("0", none)]) δ = some Lo := fun δ => by
    rw [hLo]
    exact args_el (l := oddL) (by decide +kernel)
  unfold g__law_word
  rw [ev_seqO]
  have b1 : asgI 1 (d2 modI (dVar 0) (dC (.int 8))) ([D.int c].map (fun d => some (.sh d)) ++ List.replicate 2 none) = some (.nx [some (.sh (.int c)), some (.sh (.int md)), none]) := by
    simp! only [hmd]
  rw [b1, eo_nx, ev_seqO]
  have b2 : asgS 2 (mkL (dArgs (List.map elD [("", none), ("A", none), ("a1", none), ("00", none), ("01", none), ("-1", none), ("+1", none), ("1_0", none), ("abcdefghijklm", none), ("1", some 32), ("\t", none), ("1.", none), ("a b", none), ("0", none)]))) [some (.sh (.int c)), some (.sh (.int md)), none] = some (.nx [some (.sh (.int c)), some (.sh (.int md)), some (.sh (.lst Lo))]) := by
    rw [ev_asgS, ev_mkL, fo]
    rfl
  rw [b2, eo_nx]
  simp! only [d8, p31, hr31, s1, f7, hr7, e7]
  refine hol_bi ⟨_, rfl, _, rfl, k7⟩ ?_
  simp! only [d8, p31, hr31, s1]
  refine hol_bi ⟨_, rfl, _, rfl, l1, g1⟩ ?_
  simp! only [d8, f3, hr3, e3]
  refine hol_bi ⟨_, rfl, _, rfl, k3⟩ ?_
  simp! only [d8, hr12, s2]
  refine hol_bi ⟨_, rfl, _, rfl, l2, g2⟩ ?_
  simp! only [d8, hr14, eo, hol_some]
  exact ⟨_, rfl, _, rfl, ko⟩
theorem fitting_is {t : Str} {c : Int} (ht : sgn t) (h0 : 0 ≤ c) : hol (m__law_fitting [.str t, .int c]) (isWd 40) := by
  refine hol_run rfl ?_
  have p31 : powI (.int 10) (.int 31) = some (.int (10 ^ 31)) := pow_lit 31 (by omega)
  obtain ⟨a31, e31⟩ : ∃ a : Int, a = 10 ^ 31 := ⟨_, rfl⟩
  rw [← e31] at p31
  obtain ⟨r31, hr31, q0, q1⟩ := mod_big (c := c) (n := a31) (by rw [e31]; decide)
  obtain ⟨r3, hr3, v0, v1⟩ := mod_big (c := c) (n := 3) (by omega)
  obtain ⟨r6, hr6, u0, u1⟩ := mod_big (c := c) (n := 6) (by omega)
  obtain ⟨_, s1, t1, rfl, l1, g1⟩ := str_num q0 (show r31 < 10 ^ 40 by omega)
  obtain ⟨x6, e6, k6⟩ := at_strs (ts := sixL) (n := 40) u0 u1 (by decide +kernel)
  obtain ⟨x3, e3, k3⟩ := at_strs (ts := three) (n := 40) v0 v1 (by decide +kernel)
  obtain ⟨L6, hL6⟩ : ∃ L, L = sixL.map D.str := ⟨_, rfl⟩
  obtain ⟨L3, hL3⟩ : ∃ L, L = three.map D.str := ⟨_, rfl⟩
  rw [← hL6] at e6
  rw [← hL3] at e3
  have f6 : ∀ δ, dLitS ["a", "bc", "vote", "rest", "thing", "abcdefghijkl"] δ = some L6 := fun δ => by rw [hL6]; rfl
  have f3 : ∀ δ, dLitS ["plain", "ahead", "rest"] δ = some L3 := fun δ => by rw [hL3]; rfl
  have q1 := eq_tx ht (sg_of (x := "f") (by decide +kernel))
  have q2 := eq_tx ht (sg_of (x := "k") (by decide +kernel))
  simp! only [g__law_fitting, q1, p31, hr31, s1]
  refine hol_bi ⟨_, rfl, _, rfl, l1, g1⟩ ?_
  simp! only [q2, f3, hr3, e3]
  refine hol_bi ⟨_, rfl, _, rfl, k3⟩ ?_
  simp! only [f6, hr6, e6, hol_some]
  exact ⟨_, rfl, _, rfl, k6⟩

theorem strs_map : ∀ ws : List Str, strs' (ws.map D.str) = some ws
  | [] => rfl
  | w :: r => by
    show (strs' (r.map D.str)).map (w :: ·) = _
    rw [strs_map r]
    rfl
theorem join_sgn {sep : Str} (hs : sgn sep) : ∀ {ws : List Str}, (∀ w ∈ ws, sgn w) → sgn (Str.join sep ws)
  | [], _ => fun c hc => by
    have : c ∈ ([] : List Nat) := hc
    cases this
  | [x], h => h x List.mem_cons_self
  | x :: y :: r, h => sgn_cat (sgn_cat (h x List.mem_cons_self) hs) (join_sgn hs fun w hw => h w (List.mem_cons_of_mem _ hw))
theorem sum_le {n : Nat} : ∀ {ws : List Str}, (∀ w ∈ ws, wd n w) → (ws.map (·.length)).sum ≤ n * ws.length
  | [], _ => by simp
  | x :: r, h => by
    have ih := sum_le (ws := r) fun w hw => h w (List.mem_cons_of_mem _ hw)
    have := (h x List.mem_cons_self).1
    rw [List.map_cons, List.sum_cons, List.length_cons, Nat.mul_succ]
    omega
theorem join_is {ws : List Str} (hl : ws.length ≤ 8) (hw : ∀ w ∈ ws, wd 40 w) : ∃ x, joinS (.str " ") (.lst (ws.map .str)) = some (.str x) ∧ wd 600 x := by
  have hs := sum_le hw
  have h40 : 40 * ws.length ≤ 320 := by omega
  refine ⟨Txt.join " " ws, ?_, ?_, ?_⟩
  · show ((strs' (ws.map D.str)).bind fun ts => if JoinOk " " ts = true then some (D.str (Txt.join " " ts)) else none) = _
    rw [strs_map, Option.bind_some, if_pos]
    exact PyProof.Rows.joinOk_of_weight (by omega) (by rw [blank_len]; omega)
  · show (Builtin.Str.glued " " ws).length ≤ 600
    rw [StrLaws.glued_eq_join]
    have := StrLaws.join_length_le " " ws
    rw [blank_len, Nat.mul_one] at this
    omega
  · show sgn (Builtin.Str.glued " " ws)
    rw [StrLaws.glued_eq_join]
    exact join_sgn (sg_of (by decide +kernel)) fun w h => (hw w h).2
def elevenL : List Str := ["vote", "out", "raise", "back", "beats", "top", "uncovered", "crowns", "weights", "plain", "ahead"]
def moreL : List Str := ["rest", "chair", "line", "parts", "votes", "", "things"]
def roS (c m : Int) (L : List D) (f : Str) (n : Nat) (s : SS) : Prop := ∃ (rs : Int) (ws : List Str) (o6 o7 : Option SD), s = [some (.sh (.int c)), some (.sh (.lst L)), some (.sh (.str f)), some (.sh (.int m)), some (.sh (.int rs)), some (.ow (.lst (ws.map .str))), o6, o7] ∧ 0 ≤ rs ∧ rs < 10 ^ 39 ∧ ws.length = n + 1 ∧ ∀ w ∈ ws, wd 40 w
theorem row_is {c : Int} (h0 : 0 ≤ c) (h1 : c < 10 ^ 40) : hol (m__law_row [.int c]) (isWd 600) := by
  refine hol_run rfl ?_
  obtain ⟨L11, hL11⟩ : ∃ L, L = elevenL.map D.str := ⟨_, rfl⟩
  obtain ⟨L7, hL7⟩ : ∃ L, L = moreL.map D.str := ⟨_, rfl⟩
  obtain ⟨L, hL⟩ : ∃ L, L = (elevenL ++ moreL).map D.str := ⟨_, rfl⟩
  have f11 : ∀ δ, dLitS ["vote", "out", "raise", "back", "beats", "top", "uncovered", "crowns", "weights", "plain", "ahead"] δ = some L11 := fun δ => by rw [hL11]; rfl
  have f7 : ∀ δ, dLitS ["rest", "chair", "line", "parts", "votes", "", "things"] δ = some L7 := fun δ => by rw [hL7]; rfl
  have ct : catO (some (.lst L11)) (some (.lst L7)) = some L := by
    rw [hL11, hL7, hL, List.map_append]
    exact eo_cat (by simp [elevenL, moreL])
  obtain ⟨r18, hr18, v0, v1⟩ := mod_big (c := c) (n := 18) (by omega)
  obtain ⟨f, ef, kf⟩ := at_strs (ts := elevenL ++ moreL) (n := 40) v0 v1 (by decide +kernel)
  rw [← hL] at ef
  obtain ⟨q18, eq18⟩ : ∃ q : Int, q = c / 18 := ⟨_, rfl⟩
  have d18 : divI (.int c) (.int 18) = some (.int q18) := by rw [eq18]; exact ea_div ⟨by omega, by omega⟩
  obtain ⟨q, eq⟩ : ∃ q : Int, q = c / 108 := ⟨_, rfl⟩
  have d108 : divI (.int c) (.int 108) = some (.int q) := by rw [eq]; exact ea_div ⟨by omega, by omega⟩
  have hq0 : 0 ≤ q := by omega
  have hq1 : q < 10 ^ 39 := by omega
  obtain ⟨m, em, hm⟩ := mod_nat (x := q18) (n := 6) (by omega)
  have mm : modI (.int q18) (.int 6) = some (.int (m : Int)) := by rw [ea_mod (by omega)]; exact congrArg _ (congrArg _ em)
  obtain ⟨b, hb, _⟩ := mod_big (c := q) (n := 2) (by omega)
  have fl : flatO (some [D.str f]) = some [D.str f] := flat1 rfl
  have se := shape_eq (f := f) (n := m) (by omega) kf.2
  have sl := shT_len f m
  have sg := shT_sg f m
  obtain ⟨sh, hsh⟩ : ∃ sh, sh = shT f m := ⟨_, rfl⟩
  rw [← hsh] at se sl sg
  simp! only [g__law_row, f11, f7, ct, hr18, ef, d18, mm, d108, fl, hb, se, ev_sgn, sg_eq, rng1_nat (show m ≤ 1000000 by omega)]
  refine hol_bindO (I := fun s => ∃ n, n ≤ 7 ∧ roS c m L f n s) ?_ ?_
  · refine hol_if ?_ ?_
    · refine for_map (enc := chS) (xs := sh.cps.toList) (fun pre s => roS c m L f pre.length s) ⟨q, [f], _, _, rfl, hq0, hq1, rfl, fun w hw => by rw [List.mem_singleton.mp hw]; exact kf⟩ ?_ ?_
      · rintro pre x post e s ⟨rs, ws, o6, o7, rfl, g0, g1, hl, hw⟩
        have hx := sg x (by rw [e]; simp)
        have hpl : pre.length ≤ 7 := by
          have := congrArg List.length e
          rw [tx_len, List.length_append, List.length_cons] at this
          omega
        have dd : divI (.int rs) (.int 2) = some (.int (rs / 2)) := ea_div ⟨by omega, by omega⟩
        have bb : mulB (.int (rs / 2)) (.int 48271) = some (.int (rs / 2 * 48271)) := if_pos ⟨Nat.lt_of_lt_of_le (show (rs / 2).natAbs < 10 ^ 60 by omega) (by decide +kernel), Nat.lt_of_lt_of_le (show (48271 : Int).natAbs < 10 ^ 60 by decide) (by decide +kernel)⟩
        obtain ⟨rr, hrr, i0, i1⟩ := mod_big (c := rs / 2 * 48271) (n := 2147483647) (by omega)
        obtain ⟨_, hfi, y, rfl, hy⟩ := fitting_is (t := ⟨#[x]⟩) (c := rr + 2) (sgn_one hx) (by omega)
        have hfi : m__law_fitting [chS x, .int (rr + 2)] = some (.str y) := hfi
        simp! only [dd, bb, hrr, hfi, app_mapV (enc := D.str) (xs := ws) (x := y) (show ws.length ≤ 1000000 by omega), hol_some]
        exact ⟨rr + 2, ws ++ [y], _, _, rfl, by omega, by omega, by rw [List.length_append, hl, List.length_append]; rfl, fun w h => (List.mem_append.mp h).elim (hw w) fun h => by rw [List.mem_singleton.mp h]; exact hy⟩
      · rintro s hs
        exact ⟨_, rfl, _, by rw [tx_len]; omega, hs⟩
    · refine for_rng (fun k s => roS c m L f k s) ⟨q, [f], _, _, rfl, hq0, hq1, rfl, fun w hw => by rw [List.mem_singleton.mp hw]; exact kf⟩ ?_ ?_
      · rintro k hk s ⟨rs, ws, o6, o7, rfl, g0, g1, hl, hw⟩
        have zk : (0 : Int) + (k : Int) = (k : Int) := by omega
        have bb : mulB (.int (rs + (k : Int))) (.int 69621) = some (.int ((rs + (k : Int)) * 69621)) := if_pos ⟨Nat.lt_of_lt_of_le (show (rs + (k : Int)).natAbs < 10 ^ 60 by omega) (by decide +kernel), Nat.lt_of_lt_of_le (show (69621 : Int).natAbs < 10 ^ 60 by decide) (by decide +kernel)⟩
        obtain ⟨rr, hrr, i0, i1⟩ := mod_big (c := (rs + (k : Int)) * 69621) (n := 2147483629) (by omega)
        obtain ⟨_, hwo, y, rfl, hy⟩ := word_is (c := rr) (by omega) (by omega)
        simp! only [zk, bb, hrr, hwo, app_mapV (enc := D.str) (xs := ws) (x := y) (show ws.length ≤ 1000000 by omega), hol_some]
        exact ⟨rr, ws ++ [y], _, _, rfl, by omega, by omega, by rw [List.length_append, hl]; rfl, fun w h => (List.mem_append.mp h).elim (hw w) fun h => by rw [List.mem_singleton.mp h]; exact hy⟩
      · rintro s hs
        exact ⟨_, rfl, _, by omega, hs⟩
  · rintro s ⟨n, hn, rs, ws, o6, o7, rfl, g0, g1, hl, hw⟩
    obtain ⟨x, ej, hx⟩ := join_is (ws := ws) (by omega) hw
    simp! only [ej, hol_some]
    exact ⟨_, rfl, _, rfl, hx⟩

/-! the law -/
theorem ok_res {f : Str} {ws : List Str} (hf : wd 600 f) (hw : ∀ w ∈ ws, wd 600 w) : okN 2 (.tup (resD f ws)) := by
  have s0 : okN 1 (.str f) := okN_up (okN_str hf.2) (by omega)
  have s1 : ∀ (vs : List Str), (∀ v ∈ vs, v ∈ ws) → okN 1 (.tup (vs.map .str)) := fun vs hv => okN_mapT (f := D.str) fun t ht => okN_str (hw t (hv t ht)).2
  have s2 : ∀ (vs : List Str), (∀ v ∈ vs, v ∈ ws) → ∀ d ∈ vs.map D.str, okN 1 d := fun vs hv d hd => by
    obtain ⟨v, h, rfl⟩ := List.mem_map.mp hd
    exact okN_up (okN_str (hw v (hv v h)).2) (by omega)
  have dr : ∀ v ∈ ws.drop 1, v ∈ ws := fun v h => List.mem_of_mem_drop h
  have tk : ∀ v ∈ ws.take 1, v ∈ ws := fun v h => List.mem_of_mem_take h
  have hi : ∀ n : Int, okN 1 (.int n) := fun n => okN_up okN_int (by omega)
  refine okN_tup fun d hd => ?_
  unfold resD at hd
  split at hd
  · rcases List.mem_cons.mp hd with rfl | hd
    · exact s0
    · rw [List.mem_singleton.mp hd]; exact s1 ws fun v h => h
  split at hd
  · rcases List.mem_cons.mp hd with rfl | hd
    · exact s0
    · rcases List.mem_append.mp hd with hd | hd
      · exact s2 _ tk d hd
      · rw [List.mem_singleton.mp hd]; exact s1 _ dr
  split at hd
  · rcases List.mem_cons.mp hd with rfl | hd
    · exact s0
    · rcases List.mem_cons.mp hd with rfl | hd
      · exact hi _
      · rw [List.mem_singleton.mp hd]; exact s1 _ dr
  split at hd
  · rcases List.mem_cons.mp hd with rfl | hd
    · exact s0
    · rcases List.mem_cons.mp hd with rfl | hd
      · exact hi _
      · exact s2 _ dr d hd
  · rcases List.mem_cons.mp hd with rfl | hd
    · exact s0
    · exact s2 ws (fun v h => h) d hd
theorem res_0 {f : Str} {ws : List Str} : ∃ r, resD f ws = .str f :: r := by
  unfold resD
  split
  · exact ⟨_, rfl⟩
  split
  · exact ⟨_, rfl⟩
  split
  · exact ⟨_, rfl⟩
  split
  · exact ⟨_, rfl⟩
  · exact ⟨_, rfl⟩
def vorL : List Str := ["vote", "out", "raise"]
theorem res_1 {f : Str} {ws : List Str} (h : f ∈ vorL) : ∃ n r, resD f ws = .str f :: .int n :: r := by
  have h' := h
  unfold vorL at h'
  simp only [List.mem_cons, List.not_mem_nil, or_false] at h'
  unfold resD
  rcases h' with rfl | rfl | rfl
  · rw [if_neg (by decide +kernel), if_neg (by decide +kernel), if_pos rfl]
    exact ⟨_, _, rfl⟩
  · rw [if_neg (by decide +kernel), if_neg (by decide +kernel), if_neg (by decide +kernel), if_pos (.inl rfl)]
    exact ⟨_, _, rfl⟩
  · rw [if_neg (by decide +kernel), if_neg (by decide +kernel), if_neg (by decide +kernel), if_pos (.inr rfl)]
    exact ⟨_, _, rfl⟩
theorem refused_eq {row : Str} (h : m_row_asked [.str row] = some (.exc 2)) : m__law_refused [.str row] = some (.bl true) := by
  refine run_of rfl ?_
  have x1 : isXF ["BadRow"] ["BadRow"] (.exc "BadRow") = some (.bl true) := rfl
  have x2 : isXF [] ["BadRow"] (.exc "BadRow") = some (.bl false) := rfl
  have fl : flatO (some [D.bl true, D.bl false, D.bl false, D.bl false]) = some [D.bl true, D.bl false, D.bl false, D.bl false] := rfl
  have ee : eqD (.lst [.bl true, .bl false, .bl false, .bl false]) (.lst [.bl true, .bl false, .bl false, .bl false]) = some (.bl true) := rfl
  simp_all! only [g__law_refused, flat_nil, h, x1, x2, fl, ee, hol_some]
theorem whole_int {n : Int} : m__law_whole [.int n] = some (.bl true) := by
  refine run_of rfl ?_
  simp_all! only [g__law_whole, hol_some]
theorem isN_tup {ds : List D} : isN (.tup ds) = false := rfl
theorem isN_non : isN .non = true := rfl
theorem ne_self {d : D} (h : okN 2 d) : neD d d = some (.bl false) := by
  unfold neD
  have ho := okP_of h (by omega)
  rw [ho, Bool.and_self, if_pos rfl, SeqAt.eqv_refl _ (okP_get ho).1]
  rfl
theorem law_true (ns : List Int) (h : ns.length ≤ 63) : m_law [.scr ns] = some (.bl true) := by
  refine run_of rfl ?_
  have ct : catSO (some (.scr ns)) (some (.lst [.int 3])) = some ((ns ++ [3]).map .int) := catS_rl (o := [3]) (by simp; omega)
  have p40 : powI (.int 10) (.int 40) = some (.int (10 ^ 40)) := pow_lit 40 (by omega)
  obtain ⟨a40, e40⟩ : ∃ a : Int, a = 10 ^ 40 := ⟨_, rfl⟩
  rw [← e40] at p40
  obtain ⟨cs, ecs⟩ : ∃ cs, cs = ns ++ [3] := ⟨_, rfl⟩
  rw [← ecs] at ct
  simp! only [g_law, ct]
  refine hol_bindO (I := fun s => ∃ o1 o2 o3 o4, s = [some (.sh (.scr ns)), o1, o2, o3, o4]) (for_map (enc := D.int) (xs := cs) (fun _ s => ∃ o1 o2 o3 o4, s = [some (.sh (.scr ns)), o1, o2, o3, o4]) ⟨_, _, _, _, rfl⟩ ?_ ?_) ?_
  · rintro pre c post e s ⟨o1, o2, o3, o4, rfl⟩
    obtain ⟨r, hr, r0, r1⟩ := mod_big (c := c) (n := a40) (by rw [e40]; decide)
    obtain ⟨_, hrow, row, rfl, hw⟩ := row_is r0 (by omega)
    obtain ⟨f, ws, hsp, hl, hf, hws⟩ := words_is hw
    have du := due_eq hsp hl hf hws
    have ak := asked_eq hsp hl hws
    rw [ans_eq] at ak
    unfold resX at ak
    cases hg : goodB f ws with
    | false =>
      rw [hg, if_neg Bool.false_ne_true] at du ak
      simp_all! only [p40, hr, hrow, du, isN_non, refused_eq ak, hol_some]
      exact ⟨_, _, _, _, rfl⟩
    | true =>
      rw [hg, if_pos rfl] at du ak
      have hne := ne_self (ok_res hf hws)
      have im : immO (some (.tup (resD f ws))) = some (.tup (resD f ws)) := eo_imm (im_tup (by
        have h2 := askL_imm (wl := []) (told := resD f ws) (t := resD f ws) (left := []) (l := []) rfl
        refine imms_all fun d hd => ?_
        unfold resD at hd
        have s2 : ∀ (vs : List Str), ∀ d ∈ vs.map D.str, d.imm = true := fun vs d hd => by
          obtain ⟨v, h, rfl⟩ := List.mem_map.mp hd
          rfl
        split at hd
        · rcases List.mem_cons.mp hd with rfl | hd
          · rfl
          · rw [List.mem_singleton.mp hd]; exact im_tup (im_strs _)
        split at hd
        · rcases List.mem_cons.mp hd with rfl | hd
          · rfl
          · rcases List.mem_append.mp hd with hd | hd
            · exact s2 _ d hd
            · rw [List.mem_singleton.mp hd]; exact im_tup (im_strs _)
        split at hd
        · rcases List.mem_cons.mp hd with rfl | hd
          · rfl
          · rcases List.mem_cons.mp hd with rfl | hd
            · rfl
            · rw [List.mem_singleton.mp hd]; exact im_tup (im_strs _)
        split at hd
        · rcases List.mem_cons.mp hd with rfl | hd
          · rfl
          · rcases List.mem_cons.mp hd with rfl | hd
            · rfl
            · exact s2 _ d hd
        · rcases List.mem_cons.mp hd with rfl | hd
          · rfl
          · exact s2 _ d hd))
      have iv := in_tx (ts := vorL) hf.2 (all_sg (by decide +kernel))
      unfold vorL at iv
      simp only [List.map_cons, List.map_nil] at iv
      have ac : ∀ {d : D}, valO (some (.val d)) = some d := fun {d} => rfl
      obtain ⟨r', e0⟩ := res_0 (f := f) (ws := ws)
      have a0 : atI (resD f ws) 0 = some (.str f) := by rw [e0]; exact ea_at0
      by_cases hv : f ∈ vorL
      · obtain ⟨n, r2, e1⟩ := res_1 (ws := ws) hv
        have a1 : atI (resD f ws) 1 = some (.int n) := by rw [e1]; exact ea_at1
        have hv' : f ∈ [Str.ofString "vote", Str.ofString "out", Str.ofString "raise"] := hv
        simp_all! only [p40, hr, hrow, du, im, isN_tup, ak, hne, ev_lits, a0, a1, iv, decide_eq_true hv', whole_int, hol_some]
        exact ⟨_, _, _, _, rfl⟩
      · have hv' : ¬ f ∈ [Str.ofString "vote", Str.ofString "out", Str.ofString "raise"] := hv
        simp_all! only [p40, hr, hrow, du, im, isN_tup, ak, hne, ev_lits, a0, iv, decide_eq_false hv', hol_some]
        exact ⟨_, _, _, _, rfl⟩
  · rintro s hI
    exact ⟨_, rfl, hI⟩
  · rintro s ⟨o1, o2, o3, o4, rfl⟩
    simp! only [hol_some]

end Prg

open PySem PySem.W PyProof.Rows
set_option maxRecDepth 100000 in
set_option maxHeartbeats 0 in
theorem PySem.Challenge.cw_askorder_k88_rows_asked_holds : PySem.Challenge.rw_askorder_k88_rows_asked.Holds := by
  w_on; o_law; k_head; (case hw => w_witness2)
  k_fill
  refine Prg.walk (l := PySem.Challenge.rw_askorder_k88_rows_asked) rfl rfl Prg.law_true (fun w h Y => PySem.W.kIn_of Y) ?F
  case F =>
    intro w mg fa h KX G hmg
    refine' Prg.all_mk KX G hmg ?a_is_name ?l_is_name ?c_is_name ?k_is_name ?a_number_of ?l_number_of ?c_number_of ?k_number_of ?a_is_number ?l_is_number ?c_is_number ?k_is_number ?a_row_asked ?l_row_asked ?c_row_asked ?k_row_asked ?a_first_as ?l_first_as ?c_first_as ?k_first_as ?a_kind_of ?l_kind_of ?c_kind_of ?k_kind_of ?a_name_of ?l_name_of ?c_name_of ?k_name_of ?a__law_whole ?l__law_whole ?c__law_whole ?k__law_whole ?a__law_word ?l__law_word ?c__law_word ?k__law_word ?a__law_shape ?l__law_shape ?c__law_shape ?k__law_shape ?a__law_fitting ?l__law_fitting ?c__law_fitting ?k__law_fitting ?a__law_row ?l__law_row ?c__law_row ?k__law_row ?a__law_is ?l__law_is ?c__law_is ?k__law_is ?a__law_due ?l__law_due ?c__law_due ?k__law_due ?a__law_refused ?l__law_refused ?c__law_refused ?k__law_refused ?a_law ?l_law ?c_law ?k_law ?x_AskError ?q_AskError ?x_BadOrder ?q_BadOrder ?x_BadRow ?q_BadRow ?x_BadNumber ?q_BadNumber ?x_Unknown ?q_Unknown ?e_BadRow_AskError ?xb_AskError ?xb_BadOrder ?xb_BadRow ?xb_BadNumber ?xb_Unknown ?t_BadRow_BadRow ?t_BadRow_Unknown ?t_BadRow_BadNumber ?t_BadRow_BadOrder ?wd_WANTED ?z_len ?z_all ?z_int ?z_tuple ?z_isinstance ?z_bool ?z_str ?z_range
    (case a_is_name => k_is)
    (case l_is_name => k_is)
    (case c_is_name => k_is)
    (case k_is_name => k_is)
    (case a_number_of => k_is)
    (case l_number_of => k_is)
    (case c_number_of => k_is)
    (case k_number_of => k_is)
    (case a_is_number => k_is)
    (case l_is_number => k_is)
    (case c_is_number => k_is)
    (case k_is_number => k_is)
    (case a_row_asked => k_is)
    (case l_row_asked => k_is)
    (case c_row_asked => k_is)
    (case k_row_asked => k_is)
    (case a_first_as => k_is)
    (case l_first_as => k_is)
    (case c_first_as => k_is)
    (case k_first_as => k_is)
    (case a_kind_of => k_is)
    (case l_kind_of => k_is)
    (case c_kind_of => k_is)
    (case k_kind_of => k_is)
    (case a_name_of => k_is)
    (case l_name_of => k_is)
    (case c_name_of => k_is)
    (case k_name_of => k_is)
    (case a__law_whole => k_is)
    (case l__law_whole => k_is)
    (case c__law_whole => k_is)
    (case k__law_whole => k_is)
    (case a__law_word => k_is)
    (case l__law_word => k_is)
    (case c__law_word => k_is)
    (case k__law_word => k_is)
    (case a__law_shape => k_is)
    (case l__law_shape => k_is)
    (case c__law_shape => k_is)
    (case k__law_shape => k_is)
    (case a__law_fitting => k_is)
    (case l__law_fitting => k_is)
    (case c__law_fitting => k_is)
    (case k__law_fitting => k_is)
    (case a__law_row => k_is)
    (case l__law_row => k_is)
    (case c__law_row => k_is)
    (case k__law_row => k_is)
    (case a__law_is => k_is)
    (case l__law_is => k_is)
    (case c__law_is => k_is)
    (case k__law_is => k_is)
    (case a__law_due => k_is)
    (case l__law_due => k_is)
    (case c__law_due => k_is)
    (case k__law_due => k_is)
    (case a__law_refused => k_is)
    (case l__law_refused => k_is)
    (case c__law_refused => k_is)
    (case k__law_refused => k_is)
    (case a_law => k_is)
    (case l_law => k_is)
    (case c_law => k_is)
    (case k_law => k_is)
    (case x_AskError => k_is)
    (case q_AskError => first | k_exc | kernel_rfl!)
    (case x_BadOrder => k_is)
    (case q_BadOrder => first | k_exc | kernel_rfl!)
    (case x_BadRow => k_is)
    (case q_BadRow => first | k_exc | kernel_rfl!)
    (case x_BadNumber => k_is)
    (case q_BadNumber => first | k_exc | kernel_rfl!)
    (case x_Unknown => k_is)
    (case q_Unknown => first | k_exc | kernel_rfl!)
    (case e_BadRow_AskError => first | kts_exm | k_is | kernel_rfl!)
    (case xb_AskError => first | kts_exm | k_is | kernel_rfl!)
    (case xb_BadOrder => first | kts_exm | k_is | kernel_rfl!)
    (case xb_BadRow => first | kts_exm | k_is | kernel_rfl!)
    (case xb_BadNumber => first | kts_exm | k_is | kernel_rfl!)
    (case xb_Unknown => first | kts_exm | k_is | kernel_rfl!)
    (case t_BadRow_BadRow => first | kts_exm | k_is | kernel_rfl!)
    (case t_BadRow_Unknown => first | kts_exm | k_is | kernel_rfl!)
    (case t_BadRow_BadNumber => first | kts_exm | k_is | kernel_rfl!)
    (case t_BadRow_BadOrder => first | kts_exm | k_is | kernel_rfl!)
    (case wd_WANTED => (refine ⟨_, _, _, by k_is, by decide, by k_is, ?_, by decide +kernel⟩; repeat' (first | exact True.intro | exact .nil | exact ⟨_, rfl⟩ | (refine ⟨⟨_, _, _, _, rfl, by k_is, by decide, ?_⟩, ?_⟩) | (refine .cons ?_ ?_))))
    (case z_len => k_is)
    (case z_all => k_is)
    (case z_int => k_is)
    (case z_tuple => k_is)
    (case z_isinstance => k_is)
    (case z_bool => k_is)
    (case z_str => k_is)
    (case z_range => k_is)
