import PyProof.Rows.All
import Wide.All
import OpenK.AllK
import Wide.FinOn
import Lean
import PyProof.EqAt
import PyProof.EqKinds
import PyProof.TupleCall
import PySem.Challenge.RW_askorder_k75_bad_pieces
set_option Elab.async false
set_option linter.all false
set_option maxRecDepth 100000
namespace L2
open PySem PySem.Spec PyProof.Rows
abbrev Key := Sum Int Str
def keyIs : Key → Value → Bool
 | .inl k, v => Value.isInt k v
 | .inr x, v => Value.isStrOf x v
def keyH (w : World) : Key → Int
 | .inl k => hashInt k
 | .inr x => hashStr w x
theorem keyIs_shape : ∀ {k : Key} {v : Value}, keyIs k v = true → (∃ i t, k = Sum.inl i ∧ v = Value.int i t) ∨ (∃ x t, k = Sum.inr x ∧ v = Value.str x t)
 | .inl i, v, h => by
  obtain ⟨t, e⟩ := Value.isInt_shape (k := i) (v := v) h
  exact .inl ⟨i, t, rfl, e⟩
 | .inr x, v, h => by
  obtain ⟨t, e⟩ := Value.isStrOf_shape (x := x) (v := v) h
  exact .inr ⟨x, t, rfl, e⟩
theorem keyIs_int (i : Int) (t : Tok) : keyIs (.inl i) (.int i t) = true := by simp [keyIs, Value.isInt]
theorem keyIs_str (x : Str) (t : Tok) : keyIs (.inr x) (.str x t) = true := by simp [keyIs, Value.isStrOf]
theorem key_ll (a b : Int) : decide ((Sum.inl a : Key) = Sum.inl b) = (a == b) := by
 by_cases e : a = b
 ·subst e; simp
 ·have h : ¬ (Sum.inl a : Key) = Sum.inl b := fun q => e (Sum.inl.inj q)
  rw [decide_eq_false h]
  exact (beq_eq_false_iff_ne.mpr e).symm
theorem key_rr (a b : Str) : decide ((Sum.inr a : Key) = Sum.inr b) = decide (a = b) := by
 by_cases e : a = b
 ·subst e; simp
 ·have h : ¬ (Sum.inr a : Key) = Sum.inr b := fun q => e (Sum.inr.inj q)
  rw [decide_eq_false h, decide_eq_false e]
theorem key_lr (a : Int) (b : Str) : decide ((Sum.inl a : Key) = Sum.inr b) = false := decide_eq_false (fun q => nomatch q)
theorem key_rl (a : Str) (b : Int) : decide ((Sum.inr a : Key) = Sum.inl b) = false := decide_eq_false (fun q => nomatch q)
def mixKind (prog : Program) (w : World) : PySem.KeyKind prog w Key where
 is := keyIs
 hash := keyH w
 inj := fun v a b ha hb => by
  rcases keyIs_shape ha with ⟨i, t, rfl, rfl⟩ | ⟨x, t, rfl, rfl⟩
  ·rcases keyIs_shape hb with ⟨j, u, rfl, e⟩ | ⟨y, u, rfl, e⟩
   ·injection e with e1 _; rw [e1]
   ·exact nomatch e
  ·rcases keyIs_shape hb with ⟨j, u, rfl, e⟩ | ⟨y, u, rfl, e⟩
   ·exact nomatch e
   ·injection e with e1 _; rw [e1]
 byValue := fun k v h => by
  rcases keyIs_shape h with ⟨i, t, rfl, rfl⟩ | ⟨x, t, rfl, rfl⟩ <;> rfl
 pyHash := fun hv h => by
  rcases keyIs_shape hv with ⟨i, t, rfl, rfl⟩ | ⟨x, t, rfl, rfl⟩
  ·exact wpAny_pyHash_int h
  ·exact wpAny_pyHash_str h
 eqBool := fun hu hv h => by
  rcases keyIs_shape hu with ⟨i, t, rfl, rfl⟩ | ⟨x, t, rfl, rfl⟩
  ·rcases keyIs_shape hv with ⟨j, u, rfl, rfl⟩ | ⟨y, u, rfl, rfl⟩
   ·rw [key_ll] at h; exact wpAny_eqBool_int h
   ·rw [key_lr] at h; exact SeqAt.EqAt.int_str i t y u _ _ _ _ h
  ·rcases keyIs_shape hv with ⟨j, u, rfl, rfl⟩ | ⟨y, u, rfl, rfl⟩
   ·rw [key_rl] at h; exact SeqAt.EqAt.str_int x t j u _ _ _ _ h
   ·rw [key_rr] at h; exact wpAny_eqBool_str h
 «strs» := fun k x t v h => by
  rcases keyIs_shape h with ⟨i, u, rfl, e⟩ | ⟨y, u, rfl, e⟩
  ·exact nomatch e
  ·injection e with e1 _
   subst e1
   cases v <;> rfl
theorem mixKind_int (prog : Program) (w : World) (i : Int) (t : Tok) : (mixKind prog w).is (.inl i) (.int i t) = true := keyIs_int i t
theorem mixKind_str (prog : Program) (w : World) (x : Str) (t : Tok) : (mixKind prog w).is (.inr x) (.str x t) = true := keyIs_str x t
end L2
namespace L2
open PySem PySem.Spec PyProof.Rows
inductive V where
 | non | bl (b : Bool) | int (i : Int) | str (x : Str) | byt (b : Array UInt8) | flt (b : UInt64) | ref (a : Addr) | ty (n : String)
 deriving DecidableEq
def RelV : V → Value → Prop
 | .non, u => u = Value.none
 | .bl b, u => u = Value.bool b
 | .int i, u => ∃ t, u = Value.int i t
 | .str x, u => ∃ t, u = Value.str x t
 | .byt b, u => ∃ t, u = Value.bytes b t
 | .flt b, u => ∃ t, u = Value.float b t
 | .ref a, u => u = Value.ref a
 | .ty n, u => u = Value.type n
abbrev Vals : List V → List Value → Prop := Paired RelV
theorem Vals.length {xs : List V} {us : List Value} (r : Vals xs us) : xs.length = us.length := Paired.length r
theorem Vals.get : ∀ {xs : List V} {us : List Value} {i : Nat} {x : V}, Vals xs us → xs[i]? = some x → ∃ u, us[i]? = some u ∧ RelV x u
 | _, _, _, _, .nil, e => by simp at e
 | _, _, 0, _, .cons r _, e => by simp at e; subst e; exact ⟨_, rfl, r⟩
 | _, _, i + 1, x, .cons _ t, e => by
  obtain ⟨u, h1, h2⟩ := Vals.get (i := i) (x := x) t (by simpa using e)
  exact ⟨u, by simpa using h1, h2⟩
theorem Vals.set {x : V} {u : Value} (r : RelV x u) : ∀ {xs : List V} {us : List Value} (i : Nat), Vals xs us → Vals (xs.set i x) (us.set i u)
 | _, _, _, .nil => .nil
 | _, _, 0, .cons _ t => .cons r t
 | _, _, i + 1, .cons q t => .cons q (Vals.set r i t)
theorem Vals.append : ∀ {xs ys : List V} {us ws : List Value}, Vals xs us → Vals ys ws → Vals (xs ++ ys) (us ++ ws)
 | _, _, _, _, .nil, s => s
 | _, _, _, _, .cons r t, s => .cons r (Vals.append t s)
theorem Vals.take : ∀ {xs : List V} {us : List Value} (n : Nat), Vals xs us → Vals (xs.take n) (us.take n)
 | _, _, 0, _ => .nil
 | _, _, _ + 1, .nil => .nil
 | _, _, n + 1, .cons r t => .cons r (Vals.take n t)
theorem Vals.drop : ∀ {xs : List V} {us : List Value} (n : Nat), Vals xs us → Vals (xs.drop n) (us.drop n)
 | _, _, 0, r => r
 | _, _, _ + 1, .nil => .nil
 | _, _, n + 1, .cons _ t => Vals.drop n t
def RelO : Option V → Option Value → Prop
 | some v, some u => RelV v u
 | none, none => True
 | _, _ => False
def KV {κ : Type} : List (κ × V) → List (κ × Value) → Prop := Paired fun (p : κ × V) (q : κ × Value) => p.1 = q.1 ∧ RelV p.2 q.2
def kV : Key → V
 | .inl i => .int i
 | .inr x => .str x
inductive HO where
 | lst (xs : List V)
 | tup (xs : List V)
 | dK (kvs : List (Key × V)) | dT (kvs : List (List Key × V))
 | set (S : Int → Bool) (n : Nat)
 | ins (C dx : Addr) (fs : List (Str × V))
 | own (x : Addr)
 | xd (fs : List (Str × V))
 | met (f x : Addr)
 | rng (lo hi : Int)
 | frz (o : Obj) (u : HO)
 | tbl (ps : Array Value)
 | ext (φ : Heap → Prop)
abbrev Hp := Addr → Option HO
def upd (H : Hp) (a : Addr) (o : HO) : Hp := fun b => if b = a then some o else H b
theorem upd_same {H : Hp} {a : Addr} {o : HO} : upd H a o a = some o := by unfold upd; rw [if_pos rfl]
theorem upd_ne {H : Hp} {a b : Addr} {o : HO} (h : b ≠ a) : upd H a o b = H b := by unfold upd; rw [if_neg h]
theorem ne_of {H : Hp} {a b : Addr} {o u : HO} (h : H a = some o) (h' : H b = some u) (d : o ≠ u) : a ≠ b := by
 intro e; subst e; rw [h] at h'; exact d (Option.some.inj h')
theorem ne_of_none {H : Hp} {a b : Addr} {o : HO} (h : H a = some o) (h' : H b = none) : a ≠ b := by
 intro e; subst e; rw [h] at h'; cases h'
section
variable (P : Program) (w : World)
def TupN (h : Heap) (a : Addr) (items : Array Value) : Prop := ∃ o, h.get? a = some o ∧ (o.cls = .type "tuple" ∧ o.dict = none) ∧ ∃ n, o.data = .seq items n
theorem TupN.is {h : Heap} {a : Addr} {items : Array Value} (x : TupN h a items) : IsTup h a items := let ⟨o, e, c, n⟩ := x; ⟨o, e, c.1, n⟩
theorem TupN.lt {h : Heap} {a : Addr} {items : Array Value} (x : TupN h a items) : a < h.objs.size := x.is.lt
theorem TupN.new (h : Heap) (items : Array Value) : TupN (h.push { cls := .type "tuple", data := .seq items }) h.objs.size items := ⟨_, Heap.get?_push_size _ rfl, ⟨rfl, rfl⟩, _, rfl⟩
def ObjOk (H : Hp) (h : Heap) (a : Addr) : HO → Prop
 | .lst xs => xs.length ≤ sizeLine ∧ ∃ (its : List Value) (n : Nat), Vals xs its ∧ h.get? a = some { cls := .type "list", data := .seq its.toArray n }
 | .tup xs => xs.length ≤ sizeLine ∧ ∃ its : List Value, Vals xs its ∧ TupN h a its.toArray
 | .dK kvs => kvs.length ≤ sizeLine ∧ (a == sysModules) = false ∧ ∃ vs, KV kvs vs ∧ h.DictOf (mixKind P w) a vs
 | .dT kvs => kvs.length ≤ sizeLine ∧ (a == sysModules) = false ∧ ∃ xs : List (List Key × Addr × Value),
   Paired (fun (p : List Key × V) (q : List Key × Addr × Value) => p.1 = q.1 ∧ H q.2.1 = some (.tup (p.1.map kV)) ∧ RelV p.2 q.2.2) kvs xs ∧
   ∃ o es ep, h.get? a = some o ∧ o.ExactDict ∧ o.data = .dict es ep ∧ es.toList = xs.map (entryOfKey (tupleKind (mixKind P w))) ∧ (xs.map (·.1)).Nodup
 | .set S n => h.SetOf (intKind P w) a S n
 | .ins C dx fs => H dx = some (.own a) ∧ fs.length ≤ 1000 ∧ dx ≠ a ∧ h.get? a = some (PySem.W.instObj C dx) ∧
   ∃ mA, h.Ns1 dx mA ∧ (∀ f, RelO (fs.lookup f) (mA f)) ∧ PySem.Within mA (fs.map (·.1))
 | .own _ => ∃ o, h.get? a = some o
 | .xd fs => ∃ mA, h.Ns1 a mA ∧ ∀ f, RelO (fs.lookup f) (mA f)
 | .rng lo hi => ∃ t u v, h.get? a = some { cls := .type "range", data := .fields #[.int lo t, .int hi u, .int 1 v] }
 | .frz o u => h.get? a = some o ∧ ObjOk H h a u
 | .tbl ps => h.get? a = some { cls := .none, data := .fields ps }
 | .met f x => h.get? a = some (PySem.W.methodObj (.ref f) (.ref x))
 | .ext φ => φ h ∧ (∃ o, h.get? a = some o) ∧ ∀ h1 h2 : Heap, φ h1 → (∀ o, h1.get? a = some o → h2.get? a = some o) → φ h2
def HOk (H : Hp) (h : Heap) : Prop := ∀ a o, H a = some o → ObjOk P w H h a o
end
section
variable {P : Program} {w : World} {H H' : Hp} {h h' : Heap} {a : Addr} {o : HO}
theorem ObjOk.lt (x : ObjOk P w H h a o) : a < h.objs.size := by
 cases o with
 | lst xs => obtain ⟨_, _, _, _, e⟩ := x; exact Heap.lt_size e
 | tup xs => obtain ⟨_, _, _, p⟩ := x; exact p.lt
 | dK kvs => obtain ⟨_, _, _, _, o, _, _, e, _⟩ := x; exact Heap.lt_size e
 | dT kvs => obtain ⟨_, _, _, _, o, _, _, e, _⟩ := x; exact Heap.lt_size e
 | set S n => obtain ⟨o, _, _, _, e, _⟩ := x; exact Heap.lt_size e
 | ins C dx fs => obtain ⟨_, _, _, e, _⟩ := x; exact Heap.lt_size e
 | own y => obtain ⟨_, e⟩ := x; exact Heap.lt_size e
 | xd fs => obtain ⟨_, ⟨_, _, _, e, _⟩, _⟩ := x; exact Heap.lt_size e
 | rng lo hi => obtain ⟨_, _, _, e⟩ := x; exact Heap.lt_size e
 | frz ob u => obtain ⟨e, _⟩ := x; exact Heap.lt_size e
 | tbl ps => exact Heap.lt_size (show h.get? a = some _ from x)
 | met f y => exact Heap.lt_size (show h.get? a = some _ from x)
 | ext φ => obtain ⟨_, ⟨_, e⟩, _⟩ := x; exact Heap.lt_size e
theorem Paired.mapP {α β : Type} {F G : α → β → Prop} : ∀ {l₁ : List α} {l₂ : List β}, Paired F l₁ l₂ → (∀ a b, F a b → G a b) → Paired G l₁ l₂
 | _, _, .nil, _ => .nil
 | _, _, .cons r t, f => .cons (f _ _ r) (Paired.mapP t f)
theorem ObjOk.stay (x : ObjOk P w H h a o) (k : ∀ b u, (b = a ∨ H b = some (.own a)) → h.get? b = some u → h'.get? b = some u)
  (ho : ∀ b, H b = some (.own a) → H' b = some (.own a)) (ht : ∀ b xs, H b = some (.tup xs) → H' b = some (.tup xs)) : ObjOk P w H' h' a o := by
 induction o with
 | lst xs => obtain ⟨z, its, n, r, e⟩ := x; exact ⟨z, its, n, r, k _ _ (.inl rfl) e⟩
 | tup xs => obtain ⟨z, its, r, ob, e, c⟩ := x; exact ⟨z, its, r, ob, k _ _ (.inl rfl) e, c⟩
 | dK kvs => obtain ⟨z, y, vs, r, ob, es, ep, e, c⟩ := x; exact ⟨z, y, vs, r, ob, es, ep, k _ _ (.inl rfl) e, c⟩
 | dT kvs =>
  obtain ⟨z, y, xs, r, ob, es, ep, e, c⟩ := x
  exact ⟨z, y, xs, Paired.mapP r fun p q z => ⟨z.1, ht _ _ z.2.1, z.2.2⟩, ob, es, ep, k _ _ (.inl rfl) e, c⟩
 | set S n => obtain ⟨ob, es, ep, t, e, c⟩ := x; exact ⟨ob, es, ep, t, k _ _ (.inl rfl) e, c⟩
 | ins C dx fs =>
  obtain ⟨d, z, ne, e, mA, ⟨od, es, ep, e2, c⟩, r⟩ := x
  exact ⟨ho _ d, z, ne, k _ _ (.inl rfl) e, mA, ⟨od, es, ep, k _ _ (.inr d) e2, c⟩, r⟩
 | own y => obtain ⟨ob, e⟩ := x; exact ⟨ob, k _ _ (.inl rfl) e⟩
 | xd fs => obtain ⟨mA, ⟨od, es, ep, e, c⟩, r⟩ := x; exact ⟨mA, ⟨od, es, ep, k _ _ (.inl rfl) e, c⟩, r⟩
 | rng lo hi => obtain ⟨t, u, v, e⟩ := x; exact ⟨t, u, v, k _ _ (.inl rfl) e⟩
 | frz ob u ih => obtain ⟨e, q⟩ := x; exact ⟨k _ _ (.inl rfl) e, ih q⟩
 | tbl ps =>
  have e : h.get? a = some { cls := .none, data := .fields ps } := x
  show h'.get? a = some { cls := .none, data := .fields ps }
  exact k a _ (.inl rfl) e
 | met f y =>
  have e : h.get? a = some (PySem.W.methodObj (.ref f) (.ref y)) := x
  show h'.get? a = some (PySem.W.methodObj (.ref f) (.ref y))
  exact k a _ (.inl rfl) e
 | ext φ => obtain ⟨p, ⟨o, e⟩, st⟩ := x; exact ⟨st _ _ p fun o q => k _ _ (.inl rfl) q, ⟨o, k _ _ (.inl rfl) e⟩, st⟩
theorem HOk.lt (x : HOk P w H h) (e : H a = some o) : a < h.objs.size := (x a o e).lt
theorem HOk.fresh (x : HOk P w H h) (e : h.objs.size ≤ a) : H a = none := by
 cases q : H a with
 | none => rfl
 | some u => exact absurd (Nat.lt_of_lt_of_le (x.lt q) e) (Nat.lt_irrefl _)
theorem HOk.kept (x : HOk P w H h) (k : ∀ b u, h.get? b = some u → h'.get? b = some u) : HOk P w H h' := fun a o e =>
 (x a o e).stay (fun b u _ q => k b u q) (fun _ q => q) fun _ _ q => q
theorem HOk.laid (x : HOk P w H h) (k : ∀ b u, h.get? b = some u → h'.get? b = some u) (hp : h.objs.size ≤ a) (new : ObjOk P w (upd H a o) h' a o) : HOk P w (upd H a o) h' := fun b u e => by
 have hn := x.fresh hp
 by_cases hb : b = a
 ·subst hb; rw [upd_same] at e; cases e; exact new
 ·rw [upd_ne hb] at e
  exact (x b u e).stay (fun c v _ q => k c v q) (fun c q => by rw [upd_ne (ne_of_none q hn)]; exact q) fun c xs q => by rw [upd_ne (ne_of_none q hn)]; exact q
end
def Rd (H : Hp) (a : Addr) (u : HO) : Prop := H a = some u ∨ ∃ o, H a = some (.frz o u)
theorem Rd.ok {P : Program} {w : World} {H : Hp} {h : Heap} {a : Addr} {u : HO} (r : Rd H a u) (x : HOk P w H h) : ObjOk P w H h a u := by
 rcases r with r | ⟨o, r⟩
 ·exact x a u r
 ·obtain ⟨_, q⟩ := x a _ r
  exact q
def Mut : Option HO → Prop
 | some (.lst _) => True
 | some (.dK _) => True
 | some (.dT _) => True
 | some (.set _ _) => True
 | some (.ins _ _ _) => True
 | some (.ext _) => True
 | _ => False
section
variable {P : Program} {w : World} {H : Hp} {h h' : Heap} {x e : Addr} {o' : HO}
theorem HOk.write (ok : HOk P w H h) (mu : Mut (H x)) (he : e = x ∨ H e = some (.own x)) (k : ∀ b u, b ≠ e → h.get? b = some u → h'.get? b = some u) (heo : ∃ u, h'.get? e = some u)
  (new : ObjOk P w (upd H x o') h' x o') : HOk P w (upd H x o') h' := fun b u q => by
 have nown : ∀ c y, H c = some (.own y) → c ≠ x := fun c y r z => by subst z; rw [r] at mu; exact mu
 have ntup : ∀ c xs, H c = some (.tup xs) → c ≠ x := fun c xs r z => by subst z; rw [r] at mu; exact mu
 by_cases hb : b = x
 ·subst hb; rw [upd_same] at q; cases q; exact new
 ·rw [upd_ne hb] at q
  by_cases hbe : b = e
  ·have q' : H b = some (.own x) := by
    rcases he with z | z
    ·exact absurd (hbe.trans z) hb
    ·rw [hbe]; exact z
   rw [q] at q'; cases q'
   obtain ⟨v, hv⟩ := heo
   exact ⟨v, by rw [hbe]; exact hv⟩
  ·refine (ok b u q).stay (fun c v hc r => k c v ?_ r) (fun c r => by rw [upd_ne (nown c b r)]; exact r) fun c xs r => by rw [upd_ne (ntup c xs r)]; exact r
   rcases hc with rfl | hc
   ·exact hbe
   ·rintro rfl
    rcases he with z | z
    ·exact nown c b hc z
    ·rw [hc] at z; cases z; exact hb rfl
end
structure Un (fs ex : List Addr) (H H' : Hp) (h h' : Heap) : Prop where
 keep : ∀ b o, h.get? b = some o → H b = none → b ∉ fs → b ∉ ex → h'.get? b = some o
 slot : ∀ b o, h.get? b = some o → H b = none → b ∈ fs → b ∉ ex → ∃ sl, h'.get? b = some { o with slots := sl }
 free : ∀ b o, h.get? b = some o → H b = none → b ∉ ex → H' b = none
 there : ∀ b o, h.get? b = some o → b ∉ ex → ∃ o', h'.get? b = some o'
 tups : ∀ b xs, H b = some (.tup xs) → H' b = some (.tup xs)
 frzs : ∀ b o u, H b = some (.frz o u) → H' b = some (.frz o u)
 tbls : ∀ b ps, H b = some (.tbl ps) → ∃ more, H' b = some (.tbl (ps ++ more))
section
variable {fs fs' ex ex' : List Addr} {H H1 H2 : Hp} {h h1 h2 h' : Heap} {a x e : Addr} {o : HO}
theorem Un.any (u : Un fs ex H H1 h h1) {b : Addr} {ob : Obj} (q : h.get? b = some ob) (n : H b = none) (hx : b ∉ ex) : ∃ sl, h1.get? b = some { ob with slots := sl } := by
 by_cases hb : b ∈ fs
 ·exact u.slot b ob q n hb hx
 ·exact ⟨ob.slots, u.keep b ob q n hb hx⟩
theorem Un.kept (k : ∀ b u, h.get? b = some u → h'.get? b = some u) : Un fs ex H H h h' :=
 ⟨fun b ob q _ _ _ => k b ob q, fun b ob q _ _ _ => ⟨ob.slots, k b ob q⟩, fun _ _ _ n _ => n, fun b ob q _ => ⟨ob, k b ob q⟩, fun _ _ q => q, fun _ _ _ q => q, fun _ ps q => ⟨#[], by rw [q]; simp⟩⟩
theorem Un.refl : Un fs ex H H h h := Un.kept fun _ _ q => q
theorem Un.laid (k : ∀ b u, h.get? b = some u → h'.get? b = some u) (hp : h.objs.size ≤ a) (hn : H a = none) : Un fs ex H (upd H a o) h h' where
 keep := fun b u q _ _ _ => k b u q
 slot := fun b u q _ _ _ => ⟨u.slots, k b u q⟩
 free := fun b u q n _ => by rw [upd_ne (Nat.ne_of_lt (Nat.lt_of_lt_of_le (Heap.lt_size q) hp))]; exact n
 there := fun b u q _ => ⟨u, k b u q⟩
 tups := fun b xs q => by rw [upd_ne (ne_of_none q hn)]; exact q
 frzs := fun b u xs q => by rw [upd_ne (ne_of_none q hn)]; exact q
 tbls := fun b ps q => ⟨#[], by rw [upd_ne (ne_of_none q hn), q]; simp⟩
theorem Un.write (mu : Mut (H x)) (he : e = x ∨ H e = some (.own x)) (k : ∀ b u, b ≠ e → h.get? b = some u → h'.get? b = some u) (heo : ∃ u, h'.get? e = some u) : Un fs ex H (upd H x o) h h' := by
 have hx : ∀ b, H b = none → b ≠ x := fun b n z => by subst z; rw [n] at mu; exact mu
 have hb : ∀ b, H b = none → b ≠ e := fun b n z => by
  subst z
  rcases he with r | r
  ·exact hx b n r
  ·rw [n] at r; cases r
 have hm : ∀ b u, H b = some u → ¬ Mut (some u) → b ≠ x := fun b u q nm z => by subst z; rw [q] at mu; exact nm mu
 refine ⟨fun b u q n _ _ => k b u (hb b n) q, fun b u q n _ _ => ⟨u.slots, k b u (hb b n) q⟩, fun b u q n _ => by rw [upd_ne (hx b n)]; exact n, fun b u q _ => ?_,
  fun b xs q => by rw [upd_ne (hm b _ q fun z => z)]; exact q, fun b u xs q => by rw [upd_ne (hm b _ q fun z => z)]; exact q, fun b ps q => ⟨#[], by rw [upd_ne (hm b _ q fun z => z), q]; simp⟩⟩
 by_cases hbe : b = e
 ·subst hbe; exact heo
 ·exact ⟨u, k b u hbe q⟩
end
def trk (h : Heap) (H : Hp) : List Addr := (List.range h.objs.size).filter fun a => (H a).isSome
def hidT (h : Heap) (H : Hp) : Heap := PySem.W.hideAll h (trk h H)
theorem hidT_size (h : Heap) (H : Hp) : (hidT h H).objs.size = h.objs.size := PySem.W.hideAll_size _ _
theorem hidT_get {h : Heap} {H : Hp} {b : Addr} {o : Obj} (e : h.get? b = some o) (n : H b = none) : (hidT h H).get? b = some o :=
 PySem.W.hideAll_get _ e fun hm => by
  have q : (H b).isSome = true := (List.mem_filter.mp hm).2
  rw [n] at q; simp at q
theorem of_hidT {h : Heap} {H : Hp} {b : Addr} {o : Obj} (e : (hidT h H).get? b = some o) : h.get? b = some o ∧ H b = none := by
 have e' : h.get? b = some o := PySem.W.of_hideAll (trk h H) e
 refine ⟨e', ?_⟩
 cases q : H b with
 | none => rfl
 | some x =>
  have hm : b ∈ trk h H := List.mem_filter.mpr ⟨List.mem_range.mpr (Heap.lt_size e'), by simp [q]⟩
  have z : (hidT h H).get? b = none := PySem.W.hideAll_none (trk h H) hm
  rw [z] at e; cases e
def allNews (g h : Heap) (L : Addr) : List (Addr × Obj) := (List.range h.objs.size).filterMap fun a => if a = L ∨ (g.get? a).isSome = true then none else (h.get? a).map fun o => (a, o)
def rest (g h : Heap) (L d : Addr) : List (Addr × Obj) := (allNews g h L).filter fun p => decide (p.1 ≠ d)
end L2
namespace L2
open PySem PySem.Spec PyProof.Rows
structure Mod (K : PySem.W.Frag) (mg : Str → Option Value) (base : Heap) : Prop where
 kin : K.In base
 glob : base.Ns mainGlobals mg
 blt : ∃ mb, base.Ns builtinsNs mb ∧ ∀ x : Str, x ≠ "__name__" → mb x = bootBuiltins x
 nolimit : base.NoLimit
structure Cx where
 prog : Program
 w : World
 K : PySem.W.Frag
 mg : Str → Option Value
 base : Heap
 A : Around
 N : List Str
 s₀ : Shared
 H₀ : Hp
 env : Env
 outer : List Env
 stack : List Env
 ex : List Addr
 fn : Str → Bool
 calm : Bool
 pn : List (Addr × Obj)
 xe : Value → Shared → Prop
def frs (l : List Env) : List Addr := l.filterMap (·.frame)
abbrev Cx.fs (X : Cx) : List Addr := frs X.outer
def Vis (sc : Scope) (x : Str) : Prop := sc.names.lookup x = some .local ∨ sc.names.lookup x = some .cell ∨ sc.names.lookup x = some .free
def Loc (sc : Scope) (x : Str) : Prop := sc.names.lookup x = some .local ∨ sc.names.lookup x = some .cell
def Look (env : Env) (h : Heap) (m : Str → Option Value) (x : Str) (u : Value) : Prop :=
 (env.kindOf x = some .local ∧ m x = some u) ∨ ((env.kindOf x = some .cell ∨ env.kindOf x = some .free) ∧ ∃ c, env.cells.lookup x = some c ∧ h.IsCell c (some u))
structure Cx.Ok (X : Cx) : Prop where
 mod : Mod X.K X.mg X.base
 kind : X.env.scope.kind = .function
 glob : X.env.globals = mainGlobals
 blt : X.env.builtins = builtinsNs
 above : X.s₀.heap.objs.size ≤ X.env.locals
 inj : ∀ x y c, X.env.cells.lookup x = some c → X.env.cells.lookup y = some c → x = y
 has : ∀ x, (X.env.kindOf x = some .cell ∨ X.env.kindOf x = some .free) → ∃ c, X.env.cells.lookup x = some c
 cab : ∀ x c, X.fn x = true → X.env.cells.lookup x = some c → X.s₀.heap.objs.size ≤ c
 hd : X.calm = true → X.A.handled = none
 frames : X.A.frames = some X.stack
 stk : X.stack = X.outer ∨ (X.stack = X.env :: X.outer ∧ X.env.frame = some X.env.locals)
 exf : ∀ b ∈ X.ex, b ≠ X.env.locals ∧ ∀ x c, X.env.cells.lookup x = some c → c ≠ b
 bs : ∀ b o, X.base.get? b = some o → X.s₀.heap.get? b = some o ∧ X.H₀ b = none
 bsz : X.base.objs.size ≤ X.s₀.heap.objs.size
 noex : ∀ b o, X.base.get? b = some o → b ∉ X.ex
 exfs : ∀ b ∈ X.ex, b ∉ X.fs
 funs : X.s₀.heap.FunFrames X.base X.outer
 frf : ∀ b ∈ X.fs, X.H₀ b = none
structure Inv (X : Cx) (pins : List (Addr × Obj)) (σ : List (Option V)) (H : Hp) (s : Shared) : Prop where
 ok : X.Ok
 os : s.os = X.s₀.os
 bare : AllBare s.gens
 base : Un X.fs X.ex X.H₀ H X.s₀.heap s.heap
 loc : ∃ m, s.heap.Ns X.env.locals m ∧ ∀ (i : Nat) (x : Str) (v : V), X.N[i]? = some x → σ[i]? = some (some v) → Vis X.env.scope x → ∃ u, RelV v u ∧ Look X.env s.heap m x u
 cell : ∀ x c, X.env.cells.lookup x = some c → ∃ v, s.heap.IsCell c v
 free : H X.env.locals = none
 freeC : ∀ x c, X.env.cells.lookup x = some c → H c = none
 pin : ∀ p ∈ X.pn ++ pins, s.heap.get? p.1 = some p.2 ∧ H p.1 = none ∧ p.1 ≠ X.env.locals ∧ p.1 ∉ X.fs ∧ ∀ v, p.2.data ≠ .cell v
 hok : HOk X.prog X.w H s.heap
 len : σ.length = X.N.length
section
variable {X : Cx} {pins : List (Addr × Obj)} {σ : List (Option V)} {H H' : Hp} {s : Shared} {h' : Heap}
theorem Cx.Ok.nofr (ok : X.Ok) {b : Addr} {o : Obj} (e : X.base.get? b = some o) : b ∉ X.fs := fun hb => by
 have := (ok.funs.mem hb).1
 rw [e] at this; cases this
theorem Inv.bs (I : Inv X pins σ H s) : ∀ b o, X.base.get? b = some o → s.heap.get? b = some o ∧ H b = none := fun b o e =>
 ⟨I.base.keep b o (I.ok.bs b o e).1 (I.ok.bs b o e).2 (I.ok.nofr e) (I.ok.noex b o e), I.base.free b o (I.ok.bs b o e).1 (I.ok.bs b o e).2 (I.ok.noex b o e)⟩
theorem Inv.bk (I : Inv X pins σ H s) : ∀ b o, X.base.get? b = some o → s.heap.get? b = some o := fun b o e => (I.bs b o e).1
theorem Inv.mod (I : Inv X pins σ H s) : Mod X.K X.mg X.base := I.ok.mod
theorem Inv.kIn (I : Inv X pins σ H s) : X.K.In s.heap := I.ok.mod.kin.keeps I.bk
theorem Inv.lt (I : Inv X pins σ H s) : X.env.locals < s.heap.objs.size := let ⟨_, hn, _⟩ := I.loc; hn.lt
theorem Inv.sz (I : Inv X pins σ H s) : X.s₀.heap.objs.size ≤ s.heap.objs.size := Nat.le_trans I.ok.above (Nat.le_of_lt I.lt)
theorem Inv.nofs (I : Inv X pins σ H s) {a : Addr} (h : s.heap.objs.size ≤ a) : a ∉ X.fs := fun hb => by
 obtain ⟨_, o, ho, _⟩ := I.ok.funs.mem hb
 exact absurd (Nat.lt_of_lt_of_le (Heap.lt_size ho) (Nat.le_trans I.sz h)) (Nat.lt_irrefl _)
theorem Inv.cne (I : Inv X pins σ H s) : ∀ x c, X.env.cells.lookup x = some c → c ≠ X.env.locals := fun x c e z => by
 obtain ⟨v, o, ho, hd⟩ := I.cell x c e
 obtain ⟨m, ⟨o', es, ep, ho', hd', _⟩, _⟩ := I.loc
 rw [z, ho'] at ho; cases ho; rw [hd'] at hd; cases hd
theorem Inv.funs (I : Inv X pins σ H s) : s.heap.FunFrames X.base X.outer := by
 have all : ∀ (l : List Env), (∀ b ∈ frs l, b ∈ X.fs) → X.s₀.heap.FunFrames X.base l → s.heap.FunFrames X.base l := by
  intro l
  induction l with
  | nil => intro _ _; trivial
  | cons env r ih =>
   intro hs hl
   obtain ⟨hk, ⟨L, o, hf, hn, ho, hd⟩, hr⟩ := hl
   have hL : L ∈ X.fs := hs L (by unfold frs; rw [List.filterMap_cons, hf]; exact List.mem_cons_self)
   obtain ⟨sl, e⟩ := I.base.slot L o ho (I.ok.frf L hL) hL fun z => I.ok.exfs L z hL
   exact ⟨hk, ⟨L, _, hf, hn, e, hd⟩, ih (fun b hb => hs b (by unfold frs; rw [List.filterMap_cons, hf]; exact List.mem_cons_of_mem _ hb)) hr⟩
 exact all X.outer (fun _ hb => hb) I.ok.funs
theorem Inv.stack (I : Inv X pins σ H s) : s.heap.FunFrames X.base X.stack := by
 rcases I.ok.stk with e | ⟨e, hf⟩
 ·rw [e]; exact I.funs
 ·rw [e]
  obtain ⟨m, hn, _⟩ := I.loc
  refine .cons (by rw [I.ok.kind]; decide) hf hn ?_ I.funs
  exact Heap.get?_none_of_le (Nat.le_trans I.ok.bsz I.ok.above)
theorem Inv.stkSub (I : Inv X pins σ H s) : ∀ b ∈ frs X.stack, b ∈ X.env.locals :: X.fs := fun b hb => by
 rcases I.ok.stk with e | ⟨e, hf⟩
 ·rw [e] at hb; exact List.mem_cons_of_mem _ hb
 ·rw [e] at hb
  unfold frs at hb
  rw [List.filterMap_cons, hf] at hb
  exact hb
theorem Inv.stkFree (I : Inv X pins σ H s) : ∀ b ∈ frs X.stack, H b = none := fun b hb => by
 rcases List.mem_cons.mp (I.stkSub b hb) with e | hb
 ·rw [e]; exact I.free
 ·obtain ⟨_, o, ho, _⟩ := I.ok.funs.mem hb
  exact I.base.free b o ho (I.ok.frf b hb) fun z => I.ok.exfs b z hb
theorem Inv.step {g' : Array GenState} {t' : Nat} {d' : Drawn} {ch : List Addr} (I : Inv X pins σ H s)
  (hch : ∀ b ∈ ch, (b ∈ X.ex ∨ X.s₀.heap.objs.size ≤ b) ∧ b ≠ X.env.locals ∧ (∀ x c, X.env.cells.lookup x = some c → c ≠ b) ∧ ∀ p ∈ X.pn ++ pins, p.1 ≠ b)
  (keep : ∀ b o, b ≠ X.env.locals → b ∉ X.fs → b ∉ ch → s.heap.get? b = some o → H b = none → h'.get? b = some o)
  (slot : ∀ b o, b ≠ X.env.locals → b ∈ X.fs → b ∉ ch → s.heap.get? b = some o → H b = none → ∃ sl, h'.get? b = some { o with slots := sl }) (free : ∀ b o, b ∉ ch → s.heap.get? b = some o → H b = none → H' b = none)
  (there : ∀ b o, b ∉ ch → s.heap.get? b = some o → ∃ o', h'.get? b = some o')
  (tups : ∀ b xs, H b = some (.tup xs) → H' b = some (.tup xs)) (frzs : ∀ b o u, H b = some (.frz o u) → H' b = some (.frz o u)) (tbls : ∀ b ps, H b = some (.tbl ps) → ∃ more, H' b = some (.tbl (ps ++ more)))
  (ns : ∀ m, s.heap.Ns X.env.locals m → h'.Ns X.env.locals m) (hok : HOk X.prog X.w H' h') (hg : AllBare g') :
  Inv X pins σ H' { s with heap := h', gens := g', drawn := d', toks := t' } := by
 have neL : ∀ b o, X.s₀.heap.get? b = some o → b ≠ X.env.locals := fun b o e => Nat.ne_of_lt (Nat.lt_of_lt_of_le (Heap.lt_size e) I.ok.above)
 have neC : ∀ b o, X.s₀.heap.get? b = some o → b ∉ X.ex → b ∉ ch := fun b o e hx hb => by
  rcases (hch b hb).1 with z | z
  ·exact hx z
  ·exact absurd (Nat.lt_of_lt_of_le (Heap.lt_size e) z) (Nat.lt_irrefl _)
 have cellK : ∀ x c, X.env.cells.lookup x = some c → ∀ v, s.heap.IsCell c v → h'.IsCell c v := fun x c e v ⟨o, ho, hd⟩ => by
  have nch : c ∉ ch := fun z => (hch c z).2.2.1 x c e rfl
  by_cases hc : c ∈ X.fs
  ·obtain ⟨sl, q⟩ := slot c o (I.cne x c e) hc nch ho (I.freeC x c e)
   exact ⟨_, q, hd⟩
  ·exact ⟨o, keep c o (I.cne x c e) hc nch ho (I.freeC x c e), hd⟩
 refine ⟨I.ok, I.os, hg, ⟨fun b o e n hb hx => ?_, fun b o e n hb hx => ?_, fun b o e n hx => ?_, fun b o e hx => ?_, fun b xs e => tups b xs (I.base.tups b xs e), fun b o xs e => frzs b o xs (I.base.frzs b o xs e), fun b ps e => ?_⟩, ?_, fun x c e => ?_, ?_, fun x c e => ?_, fun p hp => ?_, hok, I.len⟩
 ·exact keep b o (neL b o e) hb (neC b o e hx) (I.base.keep b o e n hb hx) (I.base.free b o e n hx)
 ·obtain ⟨sl, e1⟩ := I.base.slot b o e n hb hx
  obtain ⟨sl', e2⟩ := slot b _ (neL b o e) hb (neC b o e hx) e1 (I.base.free b o e n hx)
  exact ⟨sl', e2⟩
 ·obtain ⟨o', e1⟩ := I.base.there b o e hx
  exact free b o' (neC b o e hx) e1 (I.base.free b o e n hx)
 ·obtain ⟨o', e1⟩ := I.base.there b o e hx
  exact there b o' (neC b o e hx) e1
 ·obtain ⟨m1, e1⟩ := I.base.tbls b ps e
  obtain ⟨m2, e2⟩ := tbls b _ e1
  exact ⟨m1 ++ m2, by rw [e2, Array.append_assoc]⟩
 ·obtain ⟨m, hn, hl⟩ := I.loc
  refine ⟨m, ns m hn, fun i x v e1 e2 e3 => ?_⟩
  obtain ⟨u, r, l⟩ := hl i x v e1 e2 e3
  refine ⟨u, r, ?_⟩
  rcases l with l | ⟨k, c, e, z⟩
  ·exact .inl l
  ·exact .inr ⟨k, c, e, cellK x c e _ z⟩
 ·obtain ⟨v, z⟩ := I.cell x c e
  exact ⟨v, cellK x c e v z⟩
 ·obtain ⟨m, ⟨o, _, _, ho, _⟩, _⟩ := I.loc
  exact free _ o (fun z => (hch _ z).2.1 rfl) ho I.free
 ·obtain ⟨v, o, ho, hd⟩ := I.cell x c e
  exact free c o (fun z => (hch c z).2.2.1 x c e rfl) ho (I.freeC x c e)
 ·obtain ⟨e, n, ne, nf, d⟩ := I.pin p hp
  have nch : p.1 ∉ ch := fun z => (hch p.1 z).2.2.2 p hp rfl
  exact ⟨keep p.1 p.2 ne nf nch e n, free p.1 p.2 nch e n, ne, nf, d⟩
theorem Inv.un {t' : Nat} (I : Inv X pins σ H s) (u : Un X.fs [] H H' s.heap h') (hok : HOk X.prog X.w H' h') : Inv X pins σ H' { s with heap := h', toks := t' } := by
 obtain ⟨m, ⟨o, es, ep, ho, r⟩, _⟩ := id I.loc
 obtain ⟨sl, hL⟩ := u.any ho I.free (by simp)
 exact I.step (g' := s.gens) (d' := s.drawn) (ch := []) (fun _ z => nomatch z) (fun b o _ hb _ e n => u.keep b o e n hb (by simp)) (fun b o _ hb _ e n => u.slot b o e n hb (by simp)) (fun b o _ e n => u.free b o e n (by simp)) (fun b o _ e => u.there b o e (by simp)) u.tups u.frzs u.tbls (fun m' hm => by
  obtain ⟨o', es', ep', ho', r'⟩ := hm
  rw [ho] at ho'; cases ho'
  exact ⟨_, es', ep', hL, r'⟩) hok I.bare
theorem Inv.call {g' : Array GenState} {t' : Nat} {d' : Drawn} {ch : List Addr} (I : Inv X pins σ H s) (u : Un (frs X.stack) ch H H' s.heap h') (hok : HOk X.prog X.w H' h') (hg : AllBare g')
  (hch : ∀ b ∈ ch, (b ∈ X.ex ∨ X.s₀.heap.objs.size ≤ b) ∧ b ≠ X.env.locals ∧ (∀ x c, X.env.cells.lookup x = some c → c ≠ b) ∧ ∀ p ∈ X.pn ++ pins, p.1 ≠ b) :
  Inv X pins σ H' { s with heap := h', gens := g', drawn := d', toks := t' } := by
 obtain ⟨m, ⟨o, es, ep, ho, r⟩, _⟩ := id I.loc
 obtain ⟨sl, hL⟩ := u.any ho I.free fun z => (hch _ z).2.1 rfl
 exact I.step (ch := ch) hch (fun b o hL hb hc e n => u.keep b o e n (fun z => (List.mem_cons.mp (I.stkSub b z)).elim hL hb) hc) (fun b o _ _ hc e n => u.any e n hc) (fun b o hc e n => u.free b o e n hc) (fun b o hc e => u.there b o e hc) u.tups u.frzs u.tbls (fun m' hm => by
  obtain ⟨o', es', ep', ho', r'⟩ := hm
  rw [ho] at ho'; cases ho'
  exact ⟨_, es', ep', hL, r'⟩) hok hg
theorem Inv.turned {t' : Nat} {it : Addr} (I : Inv X pins σ H s) (k : ∀ b o, b ≠ it → s.heap.get? b = some o → h'.get? b = some o) (hn : H it = none) (hL : it ≠ X.env.locals)
  (h1 : it ∈ X.ex ∨ X.s₀.heap.objs.size ≤ it) (h2 : ∀ x c, X.env.cells.lookup x = some c → c ≠ it) (h3 : ∀ p ∈ X.pn ++ pins, p.1 ≠ it) : Inv X pins σ H { s with heap := h', toks := t' } := by
 have nit : ∀ b u, H b = some u → b ≠ it := fun b u e z => by rw [z, hn] at e; cases e
 refine I.step (g' := s.gens) (d' := s.drawn) (ch := [it]) (fun b hb => ?_) (fun b o _ _ hc e _ => k b o (fun z => hc (by simp [z])) e) (fun b o _ _ hc e _ => ⟨o.slots, k b o (fun z => hc (by simp [z])) e⟩) (fun _ _ _ _ n => n)
  (fun b o hc e => ⟨o, k b o (fun z => hc (by simp [z])) e⟩) (fun _ _ e => e) (fun _ _ _ e => e) (fun b ps e => ⟨#[], by rw [e]; simp⟩) (fun m hm => ?_) (fun b u e => ?_) I.bare
 ·have e : b = it := by simpa using hb
  subst e
  exact ⟨h1, hL, h2, h3⟩
 ·obtain ⟨o, es, ep, ho, r⟩ := hm
  exact ⟨o, es, ep, k _ o (Ne.symm hL) ho, r⟩
 ·refine (I.hok b u e).stay (fun c v hc q => k c v ?_ q) (fun _ q => q) fun _ _ q => q
  rcases hc with z | z
  ·rw [z]; exact nit b u e
  ·exact nit c _ z
theorem Inv.tok (I : Inv X pins σ H s) (t : Nat) : Inv X pins σ H { s with toks := t } := I.un (h' := s.heap) (t' := t) Un.refl I.hok
theorem Inv.kept {t' : Nat} (I : Inv X pins σ H s) (k : ∀ b u, s.heap.get? b = some u → h'.get? b = some u) : Inv X pins σ H { s with heap := h', toks := t' } := I.un (Un.kept k) (I.hok.kept k)
theorem Inv.laid {a : Addr} {o : HO} {t' : Nat} (I : Inv X pins σ H s) (k : ∀ b u, s.heap.get? b = some u → h'.get? b = some u) (hp : s.heap.objs.size ≤ a) (new : ObjOk X.prog X.w (upd H a o) h' a o) :
  Inv X pins σ (upd H a o) { s with heap := h', toks := t' } := I.un (Un.laid k hp (I.hok.fresh hp)) (I.hok.laid k hp new)
theorem Inv.write {x e : Addr} {o : HO} {t' : Nat} (I : Inv X pins σ H s) (mu : Mut (H x)) (he : e = x ∨ H e = some (.own x)) (k : ∀ b u, b ≠ e → s.heap.get? b = some u → h'.get? b = some u) (heo : ∃ u, h'.get? e = some u)
  (new : ObjOk X.prog X.w (upd H x o) h' x o) : Inv X pins σ (upd H x o) { s with heap := h', toks := t' } := I.un (Un.write mu he k heo) (I.hok.write mu he k heo new)
theorem Inv.pins_of {pins' : List (Addr × Obj)} (I : Inv X pins σ H s) (h : ∀ p ∈ pins', s.heap.get? p.1 = some p.2 ∧ H p.1 = none ∧ p.1 ≠ X.env.locals ∧ p.1 ∉ X.fs ∧ ∀ v, p.2.data ≠ .cell v) : Inv X pins' σ H s :=
 ⟨I.ok, I.os, I.bare, I.base, I.loc, I.cell, I.free, I.freeC, fun p hp => (List.mem_append.mp hp).elim (fun z => I.pin p (List.mem_append_left _ z)) (h p), I.hok, I.len⟩
theorem nodup_ix {N : List Str} (hN : N.Nodup) {i j : Nat} {x : Str} (a : N[i]? = some x) (b : N[j]? = some x) : i = j := by
 obtain ⟨h1, e1⟩ := List.getElem?_eq_some_iff.mp a
 obtain ⟨h2, e2⟩ := List.getElem?_eq_some_iff.mp b
 exact (List.getElem_inj hN).mp (e1.trans e2.symm)
theorem store_ok2 {M : Model} {A : Around} {E : Value → Shared → Prop} {i : Nat} {x : Str} {v : V} {u : Value} {Q : Unit → Shared → Prop} (I : Inv X pins σ H s) (hN : X.N.Nodup) (hi : X.N[i]? = some x) (hx : Loc X.env.scope x) (r : RelV v u)
  (h : ∀ s', Inv X pins (σ.set i (some v)) H s' → (∃ a, Heap.SameBut a s.heap s'.heap ∧ (a = X.env.locals ∨ X.env.cells.lookup x = some a)) → Q () s') (hf : X.fn x = true ∨ X.env.scope.names.lookup x = some .local := by first | exact .inl rfl | exact .inr rfl | assumption) : wpAny M A (storeName X.env x u) Q E s := by
 obtain ⟨m, hn, hl⟩ := id I.loc
 have hcls : (X.env.scope.kind == .class || (X.env.scope.kind == .module && X.env.locals != X.env.globals)) = false := by rw [I.ok.kind]; rfl
 have hiσ : i < σ.length := by rw [I.len]; exact (List.getElem?_eq_some_iff.mp hi).1
 have cne := I.cne
 have tracked : ∀ {a : Addr} {h' : Heap}, (∃ o, s.heap.get? a = some o ∧ H a = none) → Heap.SameBut a s.heap h' → HOk X.prog X.w H h' := fun {a h'} ha hs b ob e => by
  obtain ⟨_, _, hfree⟩ := ha
  refine (I.hok b ob e).stay (fun c w' hc q => (hs.2 c ?_).trans q) (fun _ q => q) fun _ _ q => q
  rintro rfl
  rcases hc with rfl | hc
  ·rw [hfree] at e; cases e
  ·rw [hfree] at hc; cases hc
 rcases hx with hk | hk
 ·refine wpAny_storeName_local hk hn (fun h' hn' hs => ?_) hcls
  obtain ⟨oL, _, _, hoL, _⟩ := id hn
  refine h _ ⟨I.ok, I.os, I.bare, ⟨fun b o e n hb hx => ?_, fun b o e n hb hx => ?_, I.base.free, fun b o e hx => ?_, I.base.tups, I.base.frzs, I.base.tbls⟩, ⟨_, hn', fun j y v' e1 e2 e3 => ?_⟩, fun y c e => ?_, I.free, I.freeC, fun p hp => ?_, tracked ⟨oL, hoL, I.free⟩ hs, by simpa using I.len⟩ ⟨_, hs, .inl rfl⟩
  ·exact (hs.2 b (Nat.ne_of_lt (Nat.lt_of_lt_of_le (Heap.lt_size e) I.ok.above))).trans (I.base.keep b o e n hb hx)
  ·obtain ⟨sl, e1⟩ := I.base.slot b o e n hb hx
   exact ⟨sl, (hs.2 b (Nat.ne_of_lt (Nat.lt_of_lt_of_le (Heap.lt_size e) I.ok.above))).trans e1⟩
  ·obtain ⟨o', e1⟩ := I.base.there b o e hx
   exact ⟨o', (hs.2 b (Nat.ne_of_lt (Nat.lt_of_lt_of_le (Heap.lt_size e) I.ok.above))).trans e1⟩
  ·by_cases hj : j = i
   ·subst hj
    rw [hi] at e1; cases e1
    rw [List.getElem?_set_self hiσ] at e2
    cases e2
    exact ⟨u, r, .inl ⟨hk, by simp⟩⟩
   ·rw [List.getElem?_set_ne (Ne.symm hj)] at e2
    obtain ⟨u', r', q⟩ := hl j y v' e1 e2 e3
    refine ⟨u', r', ?_⟩
    rcases q with ⟨k, e⟩ | ⟨k, c, e, z⟩
    ·refine .inl ⟨k, ?_⟩
     have : y ≠ x := fun e => hj (nodup_ix hN e1 (e ▸ hi))
     simp [this, e]
    ·exact .inr ⟨k, c, e, z.sameBut hs (cne y c e)⟩
  ·obtain ⟨w', z⟩ := I.cell y c e
   exact ⟨w', z.sameBut hs (cne y c e)⟩
  ·obtain ⟨e, n, ne, nf, d⟩ := I.pin p hp
   exact ⟨(hs.2 p.1 ne).trans e, n, ne, nf, d⟩
 ·have hfn : X.fn x = true := by
   rcases hf with z | z
   ·exact z
   ·rw [z] at hk; cases hk
  obtain ⟨c, hc⟩ := I.ok.has x (.inl hk)
  obtain ⟨w', z⟩ := I.cell x c hc
  refine wpAny_storeName_cell I.ok.kind hk hc z (fun h' hc' hs => ?_)
  obtain ⟨oc, hoc, hocd⟩ := id z
  refine h { s with heap := h' } ⟨I.ok, I.os, I.bare, ⟨fun b o e n hb hx => ?_, fun b o e n hb hx => ?_, I.base.free, fun b o e hx => ?_, I.base.tups, I.base.frzs, I.base.tbls⟩, ⟨m, hn.sameBut hs (Ne.symm (cne x c hc)), fun j y v' e1 e2 e3 => ?_⟩, fun y c' e => ?_, I.free, I.freeC, fun p hp => ?_, tracked ⟨oc, hoc, I.freeC x c hc⟩ hs, by simpa using I.len⟩ ⟨c, hs, .inr hc⟩
  ·exact (hs.2 b (Nat.ne_of_lt (Nat.lt_of_lt_of_le (Heap.lt_size e) (I.ok.cab x c hfn hc)))).trans (I.base.keep b o e n hb hx)
  ·obtain ⟨sl, e1⟩ := I.base.slot b o e n hb hx
   exact ⟨sl, (hs.2 b (Nat.ne_of_lt (Nat.lt_of_lt_of_le (Heap.lt_size e) (I.ok.cab x c hfn hc)))).trans e1⟩
  ·obtain ⟨o', e1⟩ := I.base.there b o e hx
   exact ⟨o', (hs.2 b (Nat.ne_of_lt (Nat.lt_of_lt_of_le (Heap.lt_size e) (I.ok.cab x c hfn hc)))).trans e1⟩
  ·by_cases hj : j = i
   ·subst hj
    rw [hi] at e1; cases e1
    rw [List.getElem?_set_self hiσ] at e2
    cases e2
    exact ⟨u, r, .inr ⟨.inl hk, c, hc, hc'⟩⟩
   ·rw [List.getElem?_set_ne (Ne.symm hj)] at e2
    obtain ⟨u', r', q⟩ := hl j y v' e1 e2 e3
    refine ⟨u', r', ?_⟩
    rcases q with q | ⟨k, c', e, z'⟩
    ·exact .inl q
    ·refine .inr ⟨k, c', e, z'.sameBut hs ?_⟩
     rintro rfl
     exact hj (nodup_ix hN e1 (I.ok.inj _ _ _ e hc ▸ hi))
  ·by_cases hcc : c' = c
   ·subst hcc; exact ⟨_, hc'⟩
   ·obtain ⟨w2, z2⟩ := I.cell y c' e
    exact ⟨w2, z2.sameBut hs hcc⟩
  ·obtain ⟨e, n, ne, nf, d⟩ := I.pin p hp
   refine ⟨(hs.2 p.1 ?_).trans e, n, ne, nf, d⟩
   intro q
   rw [q, hoc] at e
   have q' : oc = p.2 := Option.some.inj e
   exact d w' (by rw [← q']; exact hocd)
theorem store_ok {M : Model} {A : Around} {E : Value → Shared → Prop} {i : Nat} {x : Str} {v : V} {u : Value} {Q : Unit → Shared → Prop} (I : Inv X pins σ H s) (hN : X.N.Nodup) (hi : X.N[i]? = some x) (hx : Loc X.env.scope x) (r : RelV v u)
  (h : ∀ s', Inv X pins (σ.set i (some v)) H s' → Q () s') (hf : X.fn x = true ∨ X.env.scope.names.lookup x = some .local := by first | exact .inl rfl | exact .inr rfl | assumption) : wpAny M A (storeName X.env x u) Q E s :=
 store_ok2 I hN hi hx r (fun s' I' _ => h s' I') hf
theorem Inv.call' {s' : Shared} {ch : List Addr} (I : Inv X pins σ H s) (ho : s'.os = s.os) (u : Un (frs X.stack) ch H H' s.heap s'.heap) (hok : HOk X.prog X.w H' s'.heap) (hg : AllBare s'.gens)
  (hch : ∀ b ∈ ch, (b ∈ X.ex ∨ X.s₀.heap.objs.size ≤ b) ∧ b ≠ X.env.locals ∧ (∀ x c, X.env.cells.lookup x = some c → c ≠ b) ∧ ∀ p ∈ X.pn ++ pins, p.1 ≠ b) : Inv X pins σ H' s' := by
 obtain ⟨h', g', d', t', o'⟩ := s'
 have e : o' = s.os := ho
 subst e
 exact I.call (g' := g') (t' := t') (d' := d') u hok hg hch
end
abbrev XK := Value → Option Addr → Hp → Prop
abbrev St := List (Option V)
abbrev VK := V → Hp → Prop
abbrev TE := St → Hp → VK → Prop
abbrev TT := St → Hp → (Bool → Hp → Prop) → Prop
abbrev TA := St → Hp → (List V → Hp → Prop) → Prop
structure Ends where
 nx : St → Hp → Prop
 rt : VK
 bk : St → Hp → Prop := fun _ _ => False
 ct : St → Hp → Prop := fun _ _ => False
abbrev TS := Ends → St → Hp → Prop
def EP (X : Cx) (pins : List (Addr × Obj)) (σ : St) (Q : VK) (u : Value) (s' : Shared) : Prop := ∃ v H', Inv X pins σ H' s' ∧ RelV v u ∧ Q v H'
def TP (X : Cx) (pins : List (Addr × Obj)) (σ : St) (Q : Bool → Hp → Prop) (b : Bool) (s' : Shared) : Prop := ∃ H', Inv X pins σ H' s' ∧ Q b H'
def AP (X : Cx) (pins : List (Addr × Obj)) (σ : St) (Q : List V → Hp → Prop) (us : List Value) (s' : Shared) : Prop := ∃ vs H', Inv X pins σ H' s' ∧ Vals vs us ∧ Q vs H'
def SP (X : Cx) (pins : List (Addr × Obj)) (D : Ends) (f : Flow) (s' : Shared) : Prop :=
 match f with
 | .next => ∃ σ' H', Inv X pins σ' H' s' ∧ D.nx σ' H'
 | .brk => ∃ σ' H', Inv X pins σ' H' s' ∧ D.bk σ' H'
 | .cont => ∃ σ' H', Inv X pins σ' H' s' ∧ D.ct σ' H'
 | .ret u => ∃ v σ' H', Inv X pins σ' H' s' ∧ RelV v u ∧ D.rt v H'
def PE (X : Cx) (e : Expr) (t : TE) : Prop :=
 ∀ (pins : List (Addr × Obj)) (s : Shared) (σ : St) (H : Hp) (Q : VK), Inv X pins σ H s → t σ H Q → wpAny (model X.prog X.w) X.A (eval e X.env) (EP X pins σ Q) X.xe s
def PT (X : Cx) (e : Expr) (t : TT) : Prop :=
 ∀ (pins : List (Addr × Obj)) (s : Shared) (σ : St) (H : Hp) (Q : Bool → Hp → Prop), Inv X pins σ H s → t σ H Q → wpAny (model X.prog X.w) X.A (isTrue e X.env (eval e X.env)) (TP X pins σ Q) X.xe s
def PW (X : Cx) (e : Expr) (t : TT) : Prop :=
 ∀ (whole : Sem Value) (pins : List (Addr × Obj)) (s : Shared) (σ : St) (H : Hp) (Q : Bool → Hp → Prop), Inv X pins σ H s → t σ H Q → wpAny (model X.prog X.w) X.A (isTrue e X.env whole) (TP X pins σ Q) X.xe s
theorem PW.pt {X : Cx} {e : Expr} {t : TT} (h : PW X e t) : PT X e t := h _
def PA (X : Cx) (es : List Expr) (t : TA) : Prop :=
 ∀ (pos : Pos) (pins : List (Addr × Obj)) (s : Shared) (σ : St) (H : Hp) (Q : List V → Hp → Prop), Inv X pins σ H s → t σ H Q → wpAny (model X.prog X.w) X.A (spliced (backTo pos (starEach es X.env))) (AP X pins σ Q) X.xe s
def PS (X : Cx) (st : Stmt) (t : TS) : Prop :=
 ∀ (pins : List (Addr × Obj)) (s : Shared) (σ : St) (H : Hp) (D : Ends), Inv X pins σ H s → t D σ H → wpAny (model X.prog X.w) X.A (exec st X.env) (SP X pins D) X.xe s
def PSs (X : Cx) (st : List Stmt) (t : TS) : Prop :=
 ∀ (pins : List (Addr × Obj)) (s : Shared) (σ : St) (H : Hp) (D : Ends), Inv X pins σ H s → t D σ H → wpAny (model X.prog X.w) X.A (execs st X.env) (SP X pins D) X.xe s
theorem thn {α : Type} {t : Sem α} {Q Q' : α → Shared → Prop} {M : Model} {A : Around} {E : Value → Shared → Prop} {s : Shared} (h : wpAny M A t Q E s) (hQ : ∀ a s, Q a s → Q' a s) : wpAny M A t Q' E s := wpAny_mono h hQ fun _ _ x => x
end L2
namespace L2
open PySem PySem.Spec PyProof.Rows
section
variable {X : Cx}
def tVar (i : Nat) : TE := fun σ H Q => ∃ v, σ[i]? = some (some v) ∧ Q v H
def tC (v : V) : TE := fun _ H Q => Q v H
theorem pe_var {i : Nat} {x : Str} {pos : Pos} (hN : X.N[i]? = some x) (hv : Vis X.env.scope x) (hd : (x == ("__debug__" : Str)) = false := by decide) (hcd : (x == ("__classdict__" : Str)) = false := by decide) : PE X (.Name x pos) (tVar i) := by
 intro pins s σ H Q I h
 obtain ⟨v, e, h⟩ := h
 obtain ⟨m, hn, hl⟩ := I.loc
 obtain ⟨u, r, l⟩ := hl i x v hN e hv
 have fin : EP X pins σ Q u s := ⟨v, H, I, r, h⟩
 rcases l with ⟨hk, hm⟩ | ⟨hk, c, hc, hcell⟩
 ·exact wpAny_Name (wpAny_loadName_local I.ok.kind hk hn hm fin) hd
 ·rcases hk with hk | hk
  ·exact wpAny_Name (wpAny_loadName_cell I.ok.kind hk hc hcell fin) hd
  ·exact wpAny_Name (wpAny_loadName_free I.ok.kind hk hc hcell fin hcd) hd
theorem pe_int {i j pos} : PE X (.Constant (.int i) j pos) (tC (.int i)) := fun _ _ _ H _ I h => wpAny_Constant_int ⟨.int i, H, I.tok _, ⟨_, rfl⟩, h⟩
theorem pe_bl {b j pos} : PE X (.Constant (.bool b) j pos) (tC (.bl b)) := fun _ _ _ H _ I h => Constant_bool ⟨.bl b, H, I, rfl, h⟩
theorem pe_non {j pos} : PE X (.Constant .none j pos) (tC .non) := fun _ _ _ H _ I h => Constant_none ⟨.non, H, I, rfl, h⟩
theorem pe_str {x j pos} : PE X (.Constant (.str x) j pos) (tC (.str x)) := fun _ _ _ H _ I h => Calls.Constant_str ⟨.str x, H, I.tok _, ⟨_, rfl⟩, h⟩
def Gl (X : Cx) (x : Str) : Prop := X.env.kindOf x = some .globalImplicit
theorem ld_glob {E : Value → Shared → Prop} {pins : List (Addr × Obj)} {s : Shared} {σ : St} {H : Hp} {x : Str} {u : Value} {pos : Pos} {Q : Value → Shared → Prop} (I : Inv X pins σ H s) (hg : Gl X x) (hm : X.mg x = some u) (h : Q u s)
  (hd : (x == ("__debug__" : Str)) = false := by decide) : wpAny (model X.prog X.w) X.A (eval (.Name x pos) X.env) Q E s :=
 Calls.Name_function_global I.ok.kind hg (Calls.loadGlobal_global (by rw [I.ok.glob]; exact I.mod.glob.keeps I.bk) hm h) hd
theorem ld_blt {E : Value → Shared → Prop} {pins : List (Addr × Obj)} {s : Shared} {σ : St} {H : Hp} {x : Str} {u : Value} {pos : Pos} {Q : Value → Shared → Prop} (I : Inv X pins σ H s) (hg : Gl X x) (hm : X.mg x = none) (hv : bootBuiltins x = some u) (h : Q u s)
  (hn : x ≠ "__name__" := by decide) (hd : (x == ("__debug__" : Str)) = false := by decide) : wpAny (model X.prog X.w) X.A (eval (.Name x pos) X.env) Q E s := by
 obtain ⟨mb, h1, h2⟩ := I.mod.blt
 exact Calls.Name_function_global I.ok.kind hg (Calls.loadGlobal_builtin (by rw [I.ok.glob]; exact I.mod.glob.keeps I.bk) hm (by rw [I.ok.blt]; exact h1.keeps I.bk) ((h2 x hn).trans hv) h) hd
theorem pe_bltn {x : Str} {v : V} {u : Value} {pos : Pos} (hg : Gl X x) (hm : X.mg x = none) (hv : bootBuiltins x = some u) (r : RelV v u) (hn : x ≠ "__name__" := by decide) (hd : (x == ("__debug__" : Str)) = false := by decide) : PE X (.Name x pos) (tC v) :=
 fun _ _ _ H _ I h => ld_blt I hg hm hv ⟨v, H, I, r, h⟩ hn hd
variable {a b : Expr} {ta tb : TE} {pos : Pos}
def PC (X : Cx) (op : CmpOp) (a b : Expr) (t : TE) : Prop :=
 ∀ (pins : List (Addr × Obj)) (s : Shared) (σ : St) (H : Hp) (Q : VK), Inv X pins σ H s → t σ H Q →
  wpAny (model X.prog X.w) X.A (eval a X.env) (fun v s₁ => wpAny (model X.prog X.w) X.A (eval b X.env) (fun u s₂ => wpAny (model X.prog X.w) X.A (compareOp op v u) (EP X pins σ Q) X.xe s₂) X.xe s₁) X.xe s
theorem nobehind (b : Expr) {op : CmpOp} (h : op ≠ .In) (h2 : op ≠ .NotIn) : behindInMarks op b = false := by
 have e1 : (op == CmpOp.In) = false := by cases op <;> first | rfl | exact absurd rfl h
 have e2 : (op == CmpOp.NotIn) = false := by cases op <;> first | rfl | exact absurd rfl h2
 cases b <;> simp [behindInMarks, e1, e2]
def tB (t : TE) : TT := fun σ H Q => t σ H fun x H1 => ∃ c, x = .bl c ∧ Q c H1
theorem pt_cmp {op : CmpOp} {t : TE} (h : PC X op a b t) (h1 : behindInMarks op b = false := by first | exact nobehind _ (by decide) (by decide) | rfl) : PT X (.Compare a [op] [b] pos) (tB t) := by
 intro pins s σ H Q I hw
 refine wpAny_isTrue_Compare1 (thn (h pins s σ H _ I hw) fun v s1 h1 => thn h1 fun u s2 h2 => thn h2 fun c s3 ⟨x, H1, I1, r1, q1⟩ => ?_) h1
 obtain ⟨d, rfl, q⟩ := q1
 cases r1
 exact wpAny_truthy_bool ⟨H1, I1, q⟩
variable {tA tB' : TT} {rest : List Expr}
def tAnd (t u : TT) : TT := fun σ H Q => t σ H fun c H1 => if c = true then u σ H1 Q else Q false H1
def tOr (t u : TT) : TT := fun σ H Q => t σ H fun c H1 => if c = true then Q true H1 else u σ H1 Q
def tNot (t : TT) : TT := fun σ H Q => t σ H fun c H1 => Q (!c) H1
theorem pw_and1 (ha : PT X a tA) : PW X (.BoolOp .And [a] pos) tA := by
 intro wh pins s σ H Q I h
 refine isTrue_and (thn (ha pins s σ H Q I h) fun c s1 e => ?_)
 cases c with
 | true => exact isTrue_and_nil e
 | false => exact e
theorem pw_or1 (ha : PT X a tA) : PW X (.BoolOp .Or [a] pos) tA := by
 intro wh pins s σ H Q I h
 refine isTrue_or (thn (ha pins s σ H Q I h) fun c s1 e => ?_)
 cases c with
 | false => exact isTrue_or_nil e
 | true => exact e
theorem pw_and (ha : PT X a tA) (hb : PW X (.BoolOp .And (b :: rest) pos) tB') : PW X (.BoolOp .And (a :: b :: rest) pos) (tAnd tA tB') := by
 intro wh pins s σ H Q I h
 refine isTrue_and (thn (ha pins s σ H _ I h) fun c s1 ⟨H1, I1, q1⟩ => ?_)
 cases c with
 | true => exact hb wh pins s1 σ H1 Q I1 q1
 | false => exact ⟨H1, I1, q1⟩
theorem pw_or (ha : PT X a tA) (hb : PW X (.BoolOp .Or (b :: rest) pos) tB') : PW X (.BoolOp .Or (a :: b :: rest) pos) (tOr tA tB') := by
 intro wh pins s σ H Q I h
 refine isTrue_or (thn (ha pins s σ H _ I h) fun c s1 ⟨H1, I1, q1⟩ => ?_)
 cases c with
 | true => exact ⟨H1, I1, q1⟩
 | false => exact hb wh pins s1 σ H1 Q I1 q1
theorem pt_not (ha : PT X a tA) : PT X (.UnaryOp .Not a pos) (tNot tA) := by
 intro pins s σ H Q I h
 exact isTrue_not (ha pins s σ H (fun c H1 => Q (!c) H1) I h)
def tAndV (ta tb : TE) : TE := fun σ H Q => ta σ H fun x H1 => ∃ c, x = .bl c ∧ if c = true then tb σ H1 Q else Q (.bl false) H1
def tOrV (ta tb : TE) : TE := fun σ H Q => ta σ H fun x H1 => ∃ c, x = .bl c ∧ if c = true then Q (.bl true) H1 else tb σ H1 Q
def tNotV (ta : TE) : TE := fun σ H Q => ta σ H fun x H1 => ∃ c, x = .bl c ∧ Q (.bl (!c)) H1
theorem pe_one {op} {t : TE} (h : PE X a t) : PE X (.BoolOp op [a] pos) t := fun pins s σ H Q I hw => BoolOp_one (h pins s σ H Q I hw)
theorem pe_and (ha : PE X a ta) (hb : PE X (.BoolOp .And (b :: rest) pos) tb) : PE X (.BoolOp .And (a :: b :: rest) pos) (tAndV ta tb) := by
 intro pins s σ H Q I h
 refine BoolOp_and (thn (ha pins s σ H _ I h) fun v s1 ⟨x, H1, I1, r1, q1⟩ => ?_)
 obtain ⟨c, rfl, q1⟩ := q1
 cases r1
 refine wpAny_truthy_bool ?_
 cases c with
 | true => exact hb pins s1 σ H1 Q I1 q1
 | false => exact ⟨.bl false, H1, I1, rfl, q1⟩
theorem pe_or (ha : PE X a ta) (hb : PE X (.BoolOp .Or (b :: rest) pos) tb) : PE X (.BoolOp .Or (a :: b :: rest) pos) (tOrV ta tb) := by
 intro pins s σ H Q I h
 refine BoolOp_or (thn (ha pins s σ H _ I h) fun v s1 ⟨x, H1, I1, r1, q1⟩ => ?_)
 obtain ⟨c, rfl, q1⟩ := q1
 cases r1
 refine wpAny_truthy_bool ?_
 cases c with
 | false => exact hb pins s1 σ H1 Q I1 q1
 | true => exact ⟨.bl true, H1, I1, rfl, q1⟩
theorem pe_not (ha : PE X a ta) : PE X (.UnaryOp .Not a pos) (tNotV ta) := by
 intro pins s σ H Q I h
 refine UnaryOp_ (thn (ha pins s σ H _ I h) fun v s1 ⟨x, H1, I1, r1, q1⟩ => ?_)
 obtain ⟨c, rfl, q1⟩ := q1
 cases r1
 exact not_of (wpAny_truthy_bool ⟨.bl (!c), H1, I1, rfl, q1⟩)
end
end L2
namespace L2
open PySem PySem.Spec PyProof.Rows
def SqL (K : PySem.W.Frag) (H : Hp) (a : Addr) (xs : List V) : Prop :=
 Rd H a (.lst xs) ∨
  ∃ (o : Obj) (its : Array Value) (n : Nat), K.lookup a = some o ∧ o.cls = .type "list" ∧ o.dict = none ∧ o.data = .seq its n ∧ its.size ≤ sizeLine ∧ Vals xs its.toList
def SqT (K : PySem.W.Frag) (H : Hp) (a : Addr) (xs : List V) : Prop :=
 Rd H a (.tup xs) ∨
  ∃ (o : Obj) (its : Array Value) (n : Nat), K.lookup a = some o ∧ (o.cls = .type "tuple" ∧ o.dict = none) ∧ o.data = .seq its n ∧ its.size ≤ sizeLine ∧ Vals xs its.toList
def absV : Value → Option V
 | .none => some .non
 | .bool b => some (.bl b)
 | .int i _ => some (.int i)
 | .str x _ => some (.str x)
 | .bytes b _ => some (.byt b)
 | .float b _ => some (.flt b)
 | .ref a => some (.ref a)
 | .type n => some (.ty n)
 | _ => none
theorem RelV.abs {x : V} {u : Value} (r : RelV x u) : absV u = some x := by
 cases x with
 | non => cases r; rfl
 | bl _ => cases r; rfl
 | int _ => obtain ⟨t, rfl⟩ := r; rfl
 | str _ => obtain ⟨t, rfl⟩ := r; rfl
 | byt _ => obtain ⟨t, rfl⟩ := r; rfl
 | flt _ => obtain ⟨t, rfl⟩ := r; rfl
 | ref _ => cases r; rfl
 | ty _ => cases r; rfl
theorem RelV.inj {x y : V} {u : Value} (r : RelV x u) (q : RelV y u) : x = y := Option.some.inj (r.abs.symm.trans q.abs)
theorem Vals.inj : ∀ {xs ys : List V} {us : List Value}, Vals xs us → Vals ys us → xs = ys
 | _, _, _, .nil, .nil => rfl
 | _, _, _, .cons r t, .cons r' t' => by rw [r.inj r', Vals.inj t t']
section
variable {X : Cx} {pins : List (Addr × Obj)} {σ : St} {H : Hp} {s : Shared} {a : Addr} {xs ys : List V}
theorem SqL.of {K : PySem.W.Frag} (h : H a = some (.lst xs)) : SqL K H a xs := .inl (.inl h)
theorem SqT.of {K : PySem.W.Frag} (h : H a = some (.tup xs)) : SqT K H a xs := .inl (.inl h)
theorem Inv.list (I : Inv X pins σ H s) (h : SqL X.K H a xs) : ∃ its : List Value, Vals xs its ∧ PlainL s.heap a its.toArray ∧ xs.length ≤ sizeLine := by
 rcases h with h | ⟨o, its, n, hk, hc, hd, hs, hz, r⟩
 ·obtain ⟨z, its, n, r, e⟩ := h.ok I.hok
  exact ⟨its, r, ⟨_, n, e, rfl, rfl, rfl⟩, z⟩
 ·refine ⟨its.toList, r, ⟨o, n, I.kIn a o hk, hc, hd, by simpa using hs⟩, ?_⟩
  have e := r.length
  simp only [Array.length_toList] at e
  omega
theorem Inv.tuple (I : Inv X pins σ H s) (h : SqT X.K H a xs) : ∃ its : List Value, Vals xs its ∧ IsTup s.heap a its.toArray ∧ xs.length ≤ sizeLine := by
 rcases h with h | ⟨o, its, n, hk, hc, hs, hz, r⟩
 ·obtain ⟨z, its, r, p⟩ := h.ok I.hok
  exact ⟨its, r, p.is, z⟩
 ·refine ⟨its.toList, r, ⟨o, I.kIn a o hk, hc.1, n, by simpa using hs⟩, ?_⟩
  have e := r.length
  simp only [Array.length_toList] at e
  omega
theorem Inv.list_inj (I : Inv X pins σ H s) (h : SqL X.K H a xs) (h' : SqL X.K H a ys) : xs = ys := by
 obtain ⟨its, r, ⟨o, n, e, _, _, d⟩, _⟩ := I.list h
 obtain ⟨its', r', ⟨o', n', e', _, _, d'⟩, _⟩ := I.list h'
 rw [e] at e'; cases e'
 rw [d] at d'
 injection d' with d1 _
 have : its = its' := by simpa using congrArg Array.toList d1
 subst this
 exact r.inj r'
theorem Inv.tuple_inj (I : Inv X pins σ H s) (h : SqT X.K H a xs) (h' : SqT X.K H a ys) : xs = ys := by
 obtain ⟨its, r, ⟨o, e, _, n, d⟩, _⟩ := I.tuple h
 obtain ⟨its', r', ⟨o', e', _, n', d'⟩, _⟩ := I.tuple h'
 rw [e] at e'; cases e'
 rw [d] at d'
 injection d' with d1 _
 have : its = its' := by simpa using congrArg Array.toList d1
 subst this
 exact r.inj r'
end
abbrev Cx.wish (X : Cx) (E : Value → Shared → Prop) : Cx := { X with xe := E }
abbrev Cx.nox (X : Cx) : Cx := X.wish fun _ _ => False
theorem Cx.Ok.wish {X : Cx} (ok : X.Ok) (E : Value → Shared → Prop) : (X.wish E).Ok :=
 ⟨ok.mod, ok.kind, ok.glob, ok.blt, ok.above, ok.inj, ok.has, ok.cab, ok.hd, ok.frames, ok.stk, ok.exf, ok.bs, ok.bsz, ok.noex, ok.exfs, ok.funs, ok.frf⟩
theorem Cx.Ok.unwish {X : Cx} {E : Value → Shared → Prop} (ok : (X.wish E).Ok) : X.Ok :=
 ⟨ok.mod, ok.kind, ok.glob, ok.blt, ok.above, ok.inj, ok.has, ok.cab, ok.hd, ok.frames, ok.stk, ok.exf, ok.bs, ok.bsz, ok.noex, ok.exfs, ok.funs, ok.frf⟩
section
variable {X : Cx} {pins : List (Addr × Obj)} {σ : St} {H : Hp} {s : Shared} {E : Value → Shared → Prop}
theorem Inv.wish (I : Inv X pins σ H s) (E : Value → Shared → Prop) : Inv (X.wish E) pins σ H s := ⟨I.ok.wish E, I.os, I.bare, I.base, I.loc, I.cell, I.free, I.freeC, I.pin, I.hok, I.len⟩
theorem Inv.unwish (I : Inv (X.wish E) pins σ H s) : Inv X pins σ H s := ⟨I.ok.unwish, I.os, I.bare, I.base, I.loc, I.cell, I.free, I.freeC, I.pin, I.hok, I.len⟩
theorem SP.unwish {D : Ends} {f : Flow} {s' : Shared} (h : SP (X.wish E) pins D f s') : SP X pins D f s' := by
 cases f with
 | next => obtain ⟨σ', H', I, q⟩ := h; exact ⟨σ', H', I.unwish, q⟩
 | brk => obtain ⟨σ', H', I, q⟩ := h; exact ⟨σ', H', I.unwish, q⟩
 | cont => obtain ⟨σ', H', I, q⟩ := h; exact ⟨σ', H', I.unwish, q⟩
 | ret u => obtain ⟨v, σ', H', I, r, q⟩ := h; exact ⟨v, σ', H', I.unwish, r, q⟩
theorem PSs.nox {st : List Stmt} {t : TS} (h : PSs X.nox st t) : PSs X st t := fun pins s σ H D I hw =>
 wpAny_mono (h pins s σ H D (I.wish _) hw) (fun _ _ q => q.unwish) fun _ _ z => False.elim z
end
section
variable {X : Cx} {st : Stmt} {rest : List Stmt} {t u : TS} {e : Expr} {te : TE} {pos : Pos}
def tNext : TS := fun D σ H => D.nx σ H
def tSeq (t u : TS) : TS := fun D σ H => t { D with nx := u D } σ H
theorem pss_nil : PSs X [] tNext := fun _ _ σ H _ I h => wpAny_execs_nil ⟨σ, H, I, h⟩
theorem pss_cons (h1 : PS X st t) (h2 : PSs X rest u) : PSs X (st :: rest) (tSeq t u) := by
 intro pins s σ H D I h
 refine wpAny_execs_cons (thn (h1 pins s σ H { D with nx := u D } I h) fun f s1 q => ?_)
 cases f with
 | next =>
  obtain ⟨σ', H', I', q⟩ := q
  exact h2 pins s1 σ' H' D I' q
 | ret v => exact q
 | brk => exact q
 | cont => exact q
theorem pss_one (h1 : PS X st t) : PSs X [st] t := by
 intro pins s σ H D I h
 refine wpAny_execs_cons (thn (h1 pins s σ H D I h) fun f s1 q => ?_)
 cases f with
 | next => exact wpAny_execs_nil q
 | ret v => exact q
 | brk => exact q
 | cont => exact q
theorem Inv.quiet {pins : List (Addr × Obj)} {σ : St} {H : Hp} {s : Shared} (I : Inv X pins σ H s) : interactive X.env = false := by simp [interactive, I.ok.kind]
def tDrop (te : TE) : TS := fun D σ H => te σ H fun _ H1 => D.nx σ H1
theorem ps_expr (he : PE X e te) (hs : swapsWith e none pos.line X.env = pure false := by rfl) : PS X (.Expr e pos) (tDrop te) := by
 intro pins s σ H D I h
 exact wpAny_Expr_any (thn (he pins s σ H _ I h) fun v s1 ⟨x, H1, I1, r1, q1⟩ => ⟨σ, H1, I1, q1⟩) I.quiet hs
def tRet (te : TE) : TS := fun D σ H => te σ H D.rt
theorem ps_ret (he : PE X e te) : PS X (.Return (some e) pos) (tRet te) := by
 intro pins s σ H D I h
 exact wpAny_Return_some (thn (he pins s σ H _ I h) fun v s1 ⟨x, H1, I1, r1, q1⟩ => ⟨x, σ, H1, I1, r1, q1⟩)
def tIfS (c : TT) (t u : TS) : TS := fun D σ H => c σ H fun b H1 => if b = true then t D σ H1 else u D σ H1
theorem ps_if {c : Expr} {a b : List Stmt} {tc : TT} (hc : PT X c tc) (ha : PSs X a t) (hb : PSs X b u) : PS X (.If c a b pos) (tIfS tc t u) := by
 intro pins s σ H D I h
 refine wpAny_If (thn (hc pins s σ H _ I h) fun d s1 ⟨H1, I1, q1⟩ => ?_)
 cases d with
 | true => exact ha pins s1 σ H1 D I1 q1
 | false => exact hb pins s1 σ H1 D I1 q1
end
abbrev TG := V → St → Hp → (St → Hp → Prop) → Prop
abbrev TGs := List V → St → Hp → (St → Hp → Prop) → Prop
def PG (X : Cx) (target : Expr) (t : TG) : Prop :=
 ∀ (pins : List (Addr × Obj)) (s : Shared) (σ : St) (H : Hp) (v : V) (u : Value) (Q : St → Hp → Prop), Inv X pins σ H s → RelV v u → t v σ H Q →
  wpAny (model X.prog X.w) X.A (assign target X.env u) (fun _ s' => ∃ σ' H', Inv X pins σ' H' s' ∧ Q σ' H') X.xe s
def PGs (X : Cx) (ts : List Expr) (t : TGs) : Prop :=
 ∀ (pins : List (Addr × Obj)) (s : Shared) (σ : St) (H : Hp) (vs : List V) (us : List Value) (Q : St → Hp → Prop), Inv X pins σ H s → Vals vs us → t vs σ H Q →
  wpAny (model X.prog X.w) X.A (assignInOrder ((assignEach ts X.env).map (·.2)) us) (fun _ s' => ∃ σ' H', Inv X pins σ' H' s' ∧ Q σ' H') X.xe s
abbrev TSet := V → V → V → Hp → (Hp → Prop) → Prop
def PSet (X : Cx) (t : TSet) : Prop :=
 ∀ (pins : List (Addr × Obj)) (s : Shared) (σ : St) (H : Hp) (o i v : V) (ov iv u : Value) (Q : Hp → Prop), Inv X pins σ H s → RelV o ov → RelV i iv → RelV v u → t o i v H Q →
  wpAny (model X.prog X.w) X.A (setItem ov iv u) (fun _ s' => ∃ H', Inv X pins σ H' s' ∧ Q H') X.xe s
section
variable {X : Cx} {pos : Pos}
def gName (i : Nat) : TG := fun v σ H Q => Q (σ.set i (some v)) H
theorem pg_name {i : Nat} {x : Str} (hN : X.N.Nodup) (hi : X.N[i]? = some x) (hx : Loc X.env.scope x) (hf : X.fn x = true ∨ X.env.scope.names.lookup x = some .local := by first | exact .inl rfl | exact .inr rfl | assumption) : PG X (.Name x pos) (gName i) := by
 intro pins s σ H v u Q I r h
 exact wpAny_assign_Name (store_ok I hN hi hx r (fun s' I' => ⟨_, H, I', h⟩) hf)
def gNil : TGs := fun vs σ H Q => vs = [] ∧ Q σ H
def gCons (t : TG) (u : TGs) : TGs := fun vs σ H Q => ∃ v r, vs = v :: r ∧ t v σ H fun σ' H' => u r σ' H' Q
theorem pgs_nil : PGs X [] gNil := by
 intro pins s σ H vs us Q I r h
 obtain ⟨e, h⟩ := h
 subst e
 cases r
 exact assignInOrder_nil ⟨σ, H, I, h⟩
theorem pgs_cons {e : Expr} {es : List Expr} {t : TG} {u : TGs} (h1 : PG X e t) (h2 : PGs X es u)
  (hs : (assignEach (e :: es) X.env).map (·.2) = assign e X.env :: (assignEach es X.env).map (·.2) := by rfl) : PGs X (e :: es) (gCons t u) := by
 intro pins s σ H vs us Q I r h
 obtain ⟨v, vr, e1, h⟩ := h
 subst e1
 cases r with
 | cons r rr =>
  rw [hs]
  refine assignInOrder_cons (thn (h1 pins s σ H _ _ _ I r h) fun _ s1 ⟨σ1, H1, I1, q1⟩ => ?_)
  exact h2 pins s1 σ1 H1 _ _ Q I1 rr q1
def gTup (K : PySem.W.Frag) (n : Nat) (t : TGs) : TG := fun v σ H Q => ∃ a xs, v = .ref a ∧ SqT K H a xs ∧ xs.length = n ∧ t xs σ H Q
theorem pg_tup {es : List Expr} {k : Nat} {t : TGs} {n : Nat} (hc : X.calm = true) (h : PGs X es t)
  (hn : (assignEach es X.env).length = n := by rfl) (hst : (assignEach es X.env).findIdx? (·.1) = none := by rfl) : PG X (.Tuple es k pos) (gTup X.K n t) := by
 intro pins s σ H v u Q I r hw
 obtain ⟨a, xs, e1, hq, hl, hw⟩ := hw
 subst e1
 cases r
 obtain ⟨its, rv, ht, hz⟩ := I.tuple hq
 refine assign_Tuple_tuple (I.ok.hd hc) ht (by simp [hn, ← hl, rv.length]) hst fun h' hx => ?_
 have I1 : Inv X pins σ H { s with heap := h' } := I.kept (t' := s.toks) fun b o e => hx b o (Nat.ne_of_lt (Heap.lt_size e)) e
 exact h pins _ σ H xs _ Q I1 (by simpa using rv) hw
def gSub (to ti : TE) (t : TSet) : TG := fun v σ H Q => to σ H fun o H1 => ti σ H1 fun i H2 => t o i v H2 fun H3 => Q σ H3
theorem pg_sub {o i : Expr} {to ti : TE} {t : TSet} (ho : PE X o to) (hi : PE X i ti) (hs : PSet X t)
  (ha : ∀ v, assign (.Subscript o i pos) X.env v = (do
   let ov ← holding [v] (eval o X.env)
   let iv ← holding [v, ov] (eval i X.env)
   standAt pos
   holding [v, ov, iv] (setItem ov iv v)
   release [v, ov, iv] []) := by intro _; rfl) : PG X (.Subscript o i pos) (gSub to ti t) := by
 intro pins s σ H v u Q I r h
 rw [ha]
 refine wpAny_bind (wpAny_holding (thn (ho pins s σ H _ I h) fun ov s1 ⟨x, H1, I1, r1, q1⟩ => ?_))
 refine wpAny_bind (wpAny_holding (thn (hi pins s1 σ H1 _ I1 q1) fun iv s2 ⟨y, H2, I2, r2, q2⟩ => ?_))
 refine wpAny_bind (wpAny_standAt (wpAny_bind (wpAny_holding (thn (hs pins s2 σ H2 x y v ov iv u _ I2 r1 r2 r q2) fun _ s3 ⟨H3, I3, q3⟩ => ?_))))
 exact wpAny_release ⟨σ, H3, I3, q3⟩
def tAsg (te : TE) (g : TG) : TS := fun D σ H => te σ H fun x H1 => g x σ H1 D.nx
theorem ps_asg {tg e : Expr} {te : TE} {g : TG} (he : PE X e te) (hg : PG X tg g) (hs : swapsWithSole [tg] e pos.line X.env = pure false := by rfl) (hw : swappedStores [tg] e X.env = pure none := by rfl)
  (h1 : (assignEach [tg] X.env).map (·.2) = [assign tg X.env] := by rfl) : PS X (.Assign [tg] e pos) (tAsg te g) := by
 intro pins s σ H D I h
 refine wpAny_Assign_stores (thn (he pins s σ H _ I h) fun v s1 ⟨x, H1, I1, r1, q1⟩ => ?_) hs hw
 rw [h1]
 exact thn (hg pins s1 σ H1 x v _ I1 r1 q1) fun _ s2 q => q
theorem ps_set {i : Nat} {x : Str} {e : Expr} {te : TE} {pos' : Pos} (hN : X.N.Nodup) (hi : X.N[i]? = some x) (hx : Loc X.env.scope x) (he : PE X e te) (hs : swapsWith e (some (.Name x pos')) pos.line X.env = pure false := by rfl) (hf : X.fn x = true ∨ X.env.scope.names.lookup x = some .local := by first | exact .inl rfl | exact .inr rfl | assumption) :
  PS X (.Assign [.Name x pos'] e pos) (tAsg te (gName i)) := by
 intro pins s σ H D I h
 refine wpAny_Assign_Name (thn (he pins s σ H _ I h) fun v s1 ⟨y, H1, I1, r1, q1⟩ => ?_) hs
 exact store_ok I1 hN hi hx r1 (fun s2 I2 => ⟨_, H1, I2, q1⟩) hf
end
section
variable {X : Cx} {pos : Pos}
end
structure It where
 go : Nat → Hp → Prop
 yld : Nat → Hp → V → Hp → Prop
 stop : Nat → Hp → Prop
def FpOk (X : Cx) (pins : List (Addr × Obj)) (H : Hp) (b : Addr) : Prop :=
 H b = none ∧ b ≠ X.env.locals ∧ b ∉ X.fs ∧ (b ∈ X.ex ∨ X.s₀.heap.objs.size ≤ b) ∧ (∀ x c, X.env.cells.lookup x = some c → c ≠ b) ∧ ∀ p ∈ X.pn ++ pins, p.1 ≠ b
theorem Inv.fpOk {X : Cx} {pins : List (Addr × Obj)} {σ : St} {H H' : Hp} {s : Shared} {b : Addr} (I : Inv X pins σ H s) (hb : s.heap.objs.size ≤ b) (hn : H' b = none) : FpOk X pins H' b := by
 refine ⟨hn, Nat.ne_of_gt (Nat.lt_of_lt_of_le I.lt hb), I.nofs hb, .inr (Nat.le_trans I.sz hb), fun x c e z => ?_, fun p hp z => ?_⟩
 ·obtain ⟨v, q⟩ := I.cell x c e
  exact absurd (Nat.lt_of_lt_of_le q.lt (by rw [z]; exact hb)) (Nat.lt_irrefl _)
 ·exact absurd (Nat.lt_of_lt_of_le (Heap.lt_size (I.pin p hp).1) (by rw [z]; exact hb)) (Nat.lt_irrefl _)
structure Turn (P : Program) (w : World) (K : PySem.W.Frag) (tg : Expr) (J : It) (fp : List Addr) (it : Addr) (tn : Nat → Heap → Prop) : Prop where
 mem : it ∈ fp
 obj : ∀ i h, tn i h → ∀ b ∈ fp, ∃ o, h.get? b = some o ∧ ∀ v, o.data ≠ .cell v
 keep : ∀ i h h', tn i h → (∀ b ∈ fp, ∀ o, h.get? b = some o → h'.get? b = some o) → tn i h'
 item : ∀ (X : Cx), X.prog = P → X.w = w → X.K = K → X.calm = true → ∀ (i : Nat) (pins : List (Addr × Obj)) (s : Shared) (σ : St) (H : Hp) (E : Value → Shared → Prop), Inv X pins σ H s → (∀ b ∈ fp, FpOk X pins H b) → tn i s.heap → J.go i H →
  wpAny (model P w) X.A (pyNext (.ref it)) (fun r s1 => ∃ u, r = some u ∧
   wpAny (model P w) X.A (letOwnedTupleGo tg (.ref it) u) (fun _ s2 => ∃ x H', Inv X pins σ H' s2 ∧ RelV x u ∧ J.yld i H x H' ∧ tn (i + 1) s2.heap ∧ ∀ b ∈ fp, H' b = none) E s1) E s
 done : ∀ (X : Cx), X.prog = P → X.w = w → X.K = K → X.calm = true → ∀ (i : Nat) (pins : List (Addr × Obj)) (s : Shared) (σ : St) (H : Hp) (E : Value → Shared → Prop), Inv X pins σ H s → (∀ b ∈ fp, FpOk X pins H b) → tn i s.heap → J.stop i H →
  wpAny (model P w) X.A (pyNext (.ref it)) (fun r s1 => r = none ∧ Inv X pins σ H s1) E s
 self : ∀ (A : Around) (i : Nat) (s : Shared) (Q : Value → Shared → Prop) (E : Value → Shared → Prop), tn i s.heap → Q (.ref it) s → wpAny (model P w) A (pyIter (.ref it)) Q E s
abbrev TI := St → Hp → (It → Hp → Prop) → Prop
def PIE (X : Cx) (pins : List (Addr × Obj)) (σ : St) (tg : Expr) (R : It → Hp → Prop) (itv : Value) (s2 : Shared) : Prop :=
 ∃ (it : Addr) (fp : List Addr) (tn : Nat → Heap → Prop) (J : It) (H' : Hp), itv = .ref it ∧ Inv X pins σ H' s2 ∧ Turn X.prog X.w X.K tg J fp it tn ∧ tn 0 s2.heap ∧ (∀ b ∈ fp, FpOk X pins H' b) ∧ R J H'
def PI (X : Cx) (tg iter : Expr) (wi : TI) : Prop :=
 ∀ (pins : List (Addr × Obj)) (s : Shared) (σ : St) (H : Hp) (R : It → Hp → Prop), Inv X pins σ H s → wi σ H R →
  wpAny (model X.prog X.w) X.A (eval iter X.env) (fun v s1 => wpAny (model X.prog X.w) X.A (pyIter v) (PIE X pins σ tg R) X.xe s1) X.xe s
theorem go_of {M : Model} {A : Around} {E : Value → Shared → Prop} {s : Shared} {tg : Expr} {it : Addr} {u : Value} {o : Obj} {n : String} {vs : Array Value} {Q : Unit → Shared → Prop} (ho : s.heap.get? it = some o) (hc : o.cls = .type n) (hd : o.data = .fields vs)
  (hn : ["enumerate", "zip", "dict_itemiterator", "dict_reverseitemiterator", "odict_iterator", "itertools.zip_longest", "itertools.pairwise"].contains n = false) (hQ : Q () s) : wpAny M A (letOwnedTupleGo tg (.ref it) u) Q E s := by
 unfold letOwnedTupleGo
 cases tg <;> first
  | exact wpAny_pure hQ
  | (cases u <;> first
    | exact wpAny_pure hQ
    | (refine wpAny_bind (wpAny_load ho ?_)
       rw [hc, hd]
       show wpAny M A (if (["enumerate", "zip", "dict_itemiterator", "dict_reverseitemiterator", "odict_iterator", "itertools.zip_longest", "itertools.pairwise"].contains n && vs[0]? == some (rawInt _)) = true then _ else _) Q E s
       rw [if_neg (by intro h; rw [hn, Bool.false_and] at h; cases h)]
       exact wpAny_pure hQ))
def Itl (K : PySem.W.Frag) (a : Addr) : It :=
 ⟨fun i H => ∃ xs x, SqL K H a xs ∧ xs[i]? = some x, fun i H x H' => H' = H ∧ ∀ xs, SqL K H a xs → xs[i]? = some x, fun i H => ∃ xs, SqL K H a xs ∧ xs.length ≤ i⟩
def Itt (K : PySem.W.Frag) (a : Addr) : It :=
 ⟨fun i H => ∃ xs x, SqT K H a xs ∧ xs[i]? = some x, fun i H x H' => H' = H ∧ ∀ xs, SqT K H a xs → xs[i]? = some x, fun i H => ∃ xs, SqT K H a xs ∧ xs.length ≤ i⟩
def Itr (lo : Int) (n : Nat) : It := ⟨fun i _ => i < n, fun i H x H' => H' = H ∧ x = .int (lo + i), fun i _ => n ≤ i⟩
theorem turn_list {P : Program} {w : World} {K : PySem.W.Frag} {tg : Expr} (a it : Addr) : Turn P w K tg (Itl K a) [it] it (fun i h => h.IsListIter it a i) where
 mem := by simp
 obj := fun i h st b hb => by
  have e : b = it := by simpa using hb
  subst e
  obtain ⟨o, e, c, d⟩ := st
  exact ⟨o, e, fun v z => by rw [d] at z; cases z⟩
 keep := fun i h h' st k => st.at fun o e => k it (by simp) o e
 item := by
  intro X hP hw hK hc i pins s σ H E I hf st hg
  subst hP hw hK
  obtain ⟨xs, x, hq, hx⟩ := hg
  obtain ⟨its, rv, p, hz⟩ := I.list hq
  obtain ⟨u, hu, ru⟩ := rv.get hx
  obtain ⟨f0, f1, f2, f3, f4, f5⟩ := hf it (by simp)
  refine wpAny_pyNext_list_item st p.isList (x := u) (by simpa using hu) fun h' st' sb => ?_
  have I1 : Inv X pins σ H { s with heap := h' } := I.turned (t' := s.toks) (fun b o hb e => (sb.2 b hb).trans e) f0 f1 f3 f4 f5
  obtain ⟨o, e, c, d⟩ := id st'
  exact ⟨u, rfl, go_of (s := { s with heap := h' }) e c d (by decide) ⟨x, H, I1, ru, ⟨rfl, fun ys hy => by rw [I.list_inj hy hq]; exact hx⟩, st', fun b hb => (hf b hb).1⟩⟩
 done := by
  intro X hP hw hK hc i pins s σ H E I hf st hg
  subst hP hw hK
  obtain ⟨xs, hq, hx⟩ := hg
  obtain ⟨its, rv, p, hz⟩ := I.list hq
  obtain ⟨f0, f1, f2, f3, f4, f5⟩ := hf it (by simp)
  have hl := rv.length
  exact wpAny_pyNext_list_end (I.ok.hd hc) st p.isList (by simp; omega) fun h' eb => ⟨rfl, I.turned (t' := s.toks) (fun b o hb e => eb b o hb e) f0 f1 f3 f4 f5⟩
 self := fun _ _ _ _ _ st h => wpAny_pyIter_listiter st h
theorem turn_tuple {P : Program} {w : World} {K : PySem.W.Frag} {tg : Expr} (a it : Addr) : Turn P w K tg (Itt K a) [it] it (fun i h => h.IsTupleIter it a i) where
 mem := by simp
 obj := fun i h st b hb => by
  have e : b = it := by simpa using hb
  subst e
  obtain ⟨o, e, c, d⟩ := st
  exact ⟨o, e, fun v z => by rw [d] at z; cases z⟩
 keep := fun i h h' st k => st.at fun o e => k it (by simp) o e
 item := by
  intro X hP hw hK hc i pins s σ H E I hf st hg
  subst hP hw hK
  obtain ⟨xs, x, hq, hx⟩ := hg
  obtain ⟨its, rv, p, hz⟩ := I.tuple hq
  obtain ⟨u, hu, ru⟩ := rv.get hx
  obtain ⟨f0, f1, f2, f3, f4, f5⟩ := hf it (by simp)
  refine wpAny_pyNext_tuple_item st (show s.heap.IsTuple a its.toArray from p) (x := u) (by simpa using hu) fun h' st' sb => ?_
  have I1 : Inv X pins σ H { s with heap := h' } := I.turned (t' := s.toks) (fun b o hb e => (sb.2 b hb).trans e) f0 f1 f3 f4 f5
  obtain ⟨o, e, c, d⟩ := id st'
  exact ⟨u, rfl, go_of (s := { s with heap := h' }) e c d (by decide) ⟨x, H, I1, ru, ⟨rfl, fun ys hy => by rw [I.tuple_inj hy hq]; exact hx⟩, st', fun b hb => (hf b hb).1⟩⟩
 done := by
  intro X hP hw hK hc i pins s σ H E I hf st hg
  subst hP hw hK
  obtain ⟨xs, hq, hx⟩ := hg
  obtain ⟨its, rv, p, hz⟩ := I.tuple hq
  obtain ⟨f0, f1, f2, f3, f4, f5⟩ := hf it (by simp)
  have hl := rv.length
  exact wpAny_pyNext_tuple_end (I.ok.hd hc) st (show s.heap.IsTuple a its.toArray from p) (by simp; omega) fun h' eb => ⟨rfl, I.turned (t' := s.toks) (fun b o hb e => eb b o hb e) f0 f1 f3 f4 f5⟩
 self := fun _ _ _ _ _ st h => wpAny_pyIter_tupleiter st h
theorem turn_range {P : Program} {w : World} {K : PySem.W.Frag} {tg : Expr} (it : Addr) (lo : Int) (n : Nat) : Turn P w K tg (Itr lo n) [it] it (fun i h => IsRangeIter h it (lo + (i : Nat) * 1) ((n : Int) - (i : Nat)) 1) where
 mem := by simp
 obj := fun i h st b hb => by
  have e : b = it := by simpa using hb
  subst e
  exact ⟨_, st, fun v z => by
   have z' : Data.fields _ = Data.cell v := z
   cases z'⟩
 keep := fun i h h' st k => k it (by simp) _ st
 item := by
  intro X hP hw hK hc i pins s σ H E I hf st hg
  subst hP hw hK
  obtain ⟨f0, f1, f2, f3, f4, f5⟩ := hf it (by simp)
  have W := Walks.range (prog := X.prog) (w := X.w) (I.ok.hd hc) it lo 1 n
  refine W.item i s _ _ hg st fun v h' tk hv st' kk => ?_
  obtain ⟨t, rfl⟩ := hv
  have I1 : Inv X pins σ H { s with heap := h', toks := tk } := I.turned (fun b o hb e => kk b o (by simpa using hb) e) f0 f1 f3 f4 f5
  refine ⟨_, rfl, go_of (s := { s with heap := h', toks := tk }) (n := "range_iterator") st' rfl rfl (by decide) ⟨.int (lo + i), H, I1, ⟨t, ?_⟩, ⟨rfl, rfl⟩, st', fun b hb => (hf b hb).1⟩⟩
  rw [Int.mul_one]
 done := by
  intro X hP hw hK hc i pins s σ H E I hf st hg
  subst hP hw hK
  obtain ⟨f0, f1, f2, f3, f4, f5⟩ := hf it (by simp)
  exact wpAny_pyNext_range_end (I.ok.hd hc) st (by have : n ≤ i := hg; omega) fun h' eb => ⟨rfl, I.turned (t' := s.toks) (fun b o hb e => eb b o hb e) f0 f1 f3 f4 f5⟩
 self := fun _ _ _ _ _ st h => wpAny_pyIter_rangeiter st h
end L2
namespace L2
open PySem PySem.Spec PyProof.Rows
section
variable {X : Cx} {tg : Expr}
theorem range_it {pins : List (Addr × Obj)} {σ : St} {H : Hp} {s : Shared} {R : It → Hp → Prop} {E : Value → Shared → Prop} {lo hi : Int} {t u v : Tok} {tk : Nat} (I : Inv X pins σ H s) (h1 : -(2 ^ 62) ≤ lo) (h2 : lo < 2 ^ 62) (h3 : -(2 ^ 62) ≤ hi) (h4 : hi < 2 ^ 62)
  (q : R (Itr lo (hi - lo).toNat) H) : wpAny (model X.prog X.w) X.A (pyIter (.ref s.heap.objs.size)) (PIE X pins σ tg R) E { s with heap := s.heap.push { cls := .type "range", data := .fields #[.int lo t, .int hi u, .int 1 v] }, toks := tk } := by
 refine wpAny_pyIter_range (IsRange.new ..) (small_one h1 h2 h3 h4) ?_
 have I1 : Inv X pins σ H { s with heap := s.heap.push { cls := .type "range", data := .fields #[.int lo t, .int hi u, .int 1 v] }, toks := tk } := I.kept fun b o e => Heap.get?_push_of_some _ e
 refine ⟨(s.heap.push { cls := .type "range", data := .fields #[.int lo t, .int hi u, .int 1 v] }).objs.size, [(s.heap.push { cls := .type "range", data := .fields #[.int lo t, .int hi u, .int 1 v] }).objs.size], _, _, H, rfl,
  I1.kept (t' := tk) fun b o e => Heap.get?_push_of_some _ e, turn_range _ lo (hi - lo).toNat, ?_, fun b hb => ?_, q⟩
 ·have e1 : lo + ((0 : Nat) : Int) * 1 = lo := by simp
  have e2 : (((hi - lo).toNat : Nat) : Int) - ((0 : Nat) : Int) = Builtin.Range.rangeSize lo hi 1 := by rw [rangeSize_one]; split <;> omega
  show IsRangeIter _ _ (lo + ((0 : Nat) : Int) * 1) ((((hi - lo).toNat : Nat) : Int) - ((0 : Nat) : Int)) 1
  rw [e1, e2]
  exact Heap.get?_push_size _ rfl
 ·have e : b = (s.heap.push { cls := .type "range", data := .fields #[.int lo t, .int hi u, .int 1 v] }).objs.size := by simpa using hb
  subst e
  exact I1.fpOk (Nat.le_refl _) (I1.hok.fresh (Nat.le_refl _))
def iRng1 (ta : TA) : TI := fun σ H R => ta σ H fun vs H1 => ∃ j : Int, vs = [.int j] ∧ -(2 ^ 62) ≤ j ∧ j < 2 ^ 62 ∧ R (Itr 0 j.toNat) H1
def iRng2 (ta : TA) : TI := fun σ H R => ta σ H fun vs H1 => ∃ i j : Int, vs = [.int i, .int j] ∧ (-(2 ^ 62) ≤ i ∧ i < 2 ^ 62 ∧ -(2 ^ 62) ≤ j ∧ j < 2 ^ 62) ∧ R (Itr i (j - i).toNat) H1
theorem pi_range1 {a : Expr} {ta : TA} {p pos : Pos} (hg : Gl X "range") (hm : X.mg "range" = none) (ha : PA X [a] ta) (hs : starEach [a] X.env = [(false, eval a X.env)] := by rfl) : PI X tg (.Call (.Name "range" p) [a] [] pos) (iRng1 ta) := by
 intro pins s σ H R I h
 refine Call_ (ld_blt I hg hm boot_range (PyProof.Rows.callWith_type1 (thn (ha pos pins s σ H _ I h) fun us s1 ⟨vs, H1, I1, r1, q1⟩ => ?_) hs rfl))
 obtain ⟨j, e, q1, q2, q⟩ := q1
 subst e
 cases r1 with
 | cons r rr =>
  cases rr
  obtain ⟨t, rfl⟩ := r
  exact call_range_1 (range_it I1 (by omega) (by omega) q1 q2 (by simpa using q))
theorem pi_range2 {a b : Expr} {ta : TA} {p pos : Pos} (hg : Gl X "range") (hm : X.mg "range" = none) (ha : PA X [a, b] ta) (hs : starEach [a, b] X.env = [(false, eval a X.env), (false, eval b X.env)] := by rfl) (hs2 : starEach [b] X.env = [(false, eval b X.env)] := by rfl) :
  PI X tg (.Call (.Name "range" p) [a, b] [] pos) (iRng2 ta) := by
 intro pins s σ H R I h
 refine Call_ (ld_blt I hg hm boot_range (PyProof.Rows.callWith_type1 (thn (ha pos pins s σ H _ I h) fun us s1 ⟨vs, H1, I1, r1, q1⟩ => ?_) (by rw [hs, hs2]) (by rw [hs2]; rfl)))
 obtain ⟨i, j, e, ⟨q1, q2, q3, q4⟩, q⟩ := q1
 subst e
 cases r1 with
 | cons r rr =>
  cases rr with
  | cons r' rr =>
   cases rr
   obtain ⟨t, rfl⟩ := r
   obtain ⟨t', rfl⟩ := r'
   exact call_range_2 (range_it I1 q1 q2 q3 q4 q)
def tFor (wi : TI) (g : TG) (tb : TS) : TS := fun D σ H => wi σ H fun J H1 => ∃ W : Nat → Nat → St → Hp → Prop, (∃ m, W 0 m σ H1) ∧ ∀ i m σ H, W i m σ H →
 (J.stop i H ∧ D.nx σ H) ∨ (J.go i H ∧ ∃ N : St → Hp → Prop, (∀ σ' H', N σ' H' → ∃ m', m' < m ∧ W (i + 1) m' σ' H') ∧ ∀ x H', J.yld i H x H' → g x σ H' fun σ2 H2 => tb { D with nx := N, ct := N, bk := D.nx } σ2 H2)
def pinsAt (fp : List Addr) (h : Heap) : List (Addr × Obj) := fp.filterMap fun b => (h.get? b).map fun o => (b, o)
theorem mem_pinsAt {fp : List Addr} {h : Heap} {b : Addr} {o : Obj} (hb : b ∈ fp) (e : h.get? b = some o) : (b, o) ∈ pinsAt fp h := List.mem_filterMap.mpr ⟨b, hb, by rw [e]; rfl⟩
theorem of_pinsAt {fp : List Addr} {h : Heap} {p : Addr × Obj} (hp : p ∈ pinsAt fp h) : p.1 ∈ fp ∧ h.get? p.1 = some p.2 := by
 obtain ⟨b, hb, e⟩ := List.mem_filterMap.mp hp
 cases q : h.get? b with
 | none => rw [q] at e; cases e
 | some o =>
  rw [q] at e
  have e' : (b, o) = p := Option.some.inj e
  subst e'
  exact ⟨hb, q⟩
theorem Inv.pinned {pins : List (Addr × Obj)} {σ : St} {H : Hp} {s : Shared} {fp : List Addr} (I : Inv X pins σ H s) (hf : ∀ b ∈ fp, FpOk X pins H b) (ho : ∀ b ∈ fp, ∃ o, s.heap.get? b = some o ∧ ∀ v, o.data ≠ .cell v) : Inv X (pins ++ pinsAt fp s.heap) σ H s :=
 I.pins_of fun p hp => (List.mem_append.mp hp).elim (fun z => I.pin p (List.mem_append_right _ z)) fun z => by
  obtain ⟨hb, e⟩ := of_pinsAt z
  obtain ⟨f0, f1, f2, _⟩ := hf p.1 hb
  obtain ⟨o, e', d⟩ := ho p.1 hb
  rw [e] at e'; cases e'
  exact ⟨e, f0, f1, f2, d⟩
theorem Inv.unpinned {pins pl : List (Addr × Obj)} {σ : St} {H : Hp} {s : Shared} (I : Inv X (pins ++ pl) σ H s) : Inv X pins σ H s := I.pins_of fun p hp => I.pin p (List.mem_append_right _ (List.mem_append_left _ hp))
theorem ps_for {iter : Expr} {body : List Stmt} {wi : TI} {g : TG} {tb : TS} {pos : Pos} (hp : PassesOwn (model X.prog X.w) X.A X.env X.xe) (hc : X.calm = true) (hi : PI X tg iter wi) (hg : PG X tg g) (hb : PSs X body tb)
  (hs : ∀ x, foldedSetIterable iter X.env x = pure x := by intro _; rfl) : PS X (.For tg iter body [] pos) (tFor wi g tb) := by
 intro pins s σ H D I h
 refine wpAny_For (thn (hi pins s σ H _ I h) fun v s1 h1 => thn h1 fun itv s2 h2 => ?_) hs
 obtain ⟨it, fp, tn, J, H2, e, I2, T, st2, f2, W, ⟨m0, w0⟩, turn⟩ := h2
 subst e
 have stat : ∀ {H' : Hp}, (∀ b ∈ fp, H' b = none) → ∀ b ∈ fp, FpOk X pins H' b := fun hn b hb => ⟨hn b hb, (f2 b hb).2⟩
 refine codeAny_forLoop_any (fun n s' => ∃ i σ' H', Inv X pins σ' H' s' ∧ tn i s'.heap ∧ (∀ b ∈ fp, H' b = none) ∧ W i n σ' H') ?_ m0 ⟨0, σ, H2, I2, st2, fun b hb => (f2 b hb).1, w0⟩
 rintro n s3 ⟨i, σ3, H3, I3, st3, fr3, w3⟩
 rcases turn i n σ3 H3 w3 with ⟨stop, qn⟩ | ⟨go, N, hN, step⟩
 ·refine wpAny_passesOwn hp (thn (T.done X rfl rfl rfl hc i pins s3 σ3 H3 X.xe I3 (stat fr3) st3 stop) fun r s4 ⟨hr, I4⟩ => ?_)
  subst hr
  exact wpAny_execs_nil ⟨σ3, H3, I4, qn⟩
 ·refine wpAny_passesOwn hp (thn (T.item X rfl rfl rfl hc i pins s3 σ3 H3 X.xe I3 (stat fr3) st3 go) fun r s4 ⟨u, hr, h4⟩ => ?_)
  subst hr
  refine wpAny_passesOwn hp (thn h4 fun _ s5 ⟨x, H5, I5, r5, y5, st5, fr5⟩ => ?_)
  have I5' := I5.pinned (stat fr5) (T.obj _ _ st5)
  refine wpAny_passesOwn hp (thn (hg _ s5 σ3 H5 x u _ I5' r5 (step x H5 y5)) fun _ s6 ⟨σ6, H6, I6, q6⟩ => ?_)
  refine wpAny_passesOwn hp (thn (hb _ s6 σ6 H6 _ I6 q6) fun f s7 q7 => ?_)
  have again : ∀ {σ7 : St} {H7 : Hp}, Inv X (pins ++ pinsAt fp s5.heap) σ7 H7 s7 → N σ7 H7 → ∃ m, m < n ∧ ∃ i σ' H', Inv X pins σ' H' s7 ∧ tn i s7.heap ∧ (∀ b ∈ fp, H' b = none) ∧ W i m σ' H' := fun {σ7 H7} I7 n7 => by
   obtain ⟨m', hm, w7⟩ := hN σ7 H7 n7
   refine ⟨m', hm, i + 1, σ7, H7, I7.unpinned, T.keep _ _ _ st5 fun b hb o e => (I7.pin (b, o) (List.mem_append_right _ (List.mem_append_right _ (mem_pinsAt hb e)))).1, fun b hb => ?_, w7⟩
   obtain ⟨o, e, d⟩ := T.obj _ _ st5 b hb
   exact (I7.pin (b, o) (List.mem_append_right _ (List.mem_append_right _ (mem_pinsAt hb e)))).2.1
  cases f with
  | next => obtain ⟨σ7, H7, I7, n7⟩ := q7; exact again I7 n7
  | cont => obtain ⟨σ7, H7, I7, n7⟩ := q7; exact again I7 n7
  | brk => obtain ⟨σ7, H7, I7, q7⟩ := q7; exact ⟨σ7, H7, I7.unpinned, q7⟩
  | ret v => obtain ⟨x7, σ7, H7, I7, r7, q7⟩ := q7; exact ⟨x7, σ7, H7, I7.unpinned, r7, q7⟩
end
theorem for_list {K : PySem.W.Frag} {a : Addr} {xs : List V} {g : TG} {tb : TS} {D : Ends} {σ : St} {H : Hp} (Pv : Nat → St → Hp → Prop) (h0 : Pv 0 σ H) (hl : ∀ i σ H, i ≤ xs.length → Pv i σ H → SqL K H a xs)
  (hs : ∀ i x σ H, xs[i]? = some x → Pv i σ H → g x σ H fun σ2 H2 => tb { D with nx := Pv (i + 1), ct := Pv (i + 1), bk := D.nx } σ2 H2) (hd : ∀ σ H, Pv xs.length σ H → D.nx σ H) :
  ∃ W : Nat → Nat → St → Hp → Prop, (∃ m, W 0 m σ H) ∧ ∀ i m σ H, W i m σ H →
   ((Itl K a).stop i H ∧ D.nx σ H) ∨ ((Itl K a).go i H ∧ ∃ N : St → Hp → Prop, (∀ σ' H', N σ' H' → ∃ m', m' < m ∧ W (i + 1) m' σ' H') ∧ ∀ x H', (Itl K a).yld i H x H' → g x σ H' fun σ2 H2 => tb { D with nx := N, ct := N, bk := D.nx } σ2 H2) := by
 refine ⟨fun i m σ H => m = xs.length - i ∧ i ≤ xs.length ∧ Pv i σ H, ⟨xs.length, by simp, Nat.zero_le _, h0⟩, ?_⟩
 rintro i m σ H ⟨rfl, hi, p⟩
 have q := hl i σ H hi p
 by_cases hlt : i < xs.length
 ·refine .inr ⟨⟨xs, xs[i], q, by simp [hlt]⟩, Pv (i + 1), fun σ' H' p' => ⟨xs.length - (i + 1), by omega, rfl, hlt, p'⟩, fun x H' y => ?_⟩
  obtain ⟨e, y⟩ := y
  subst e
  exact hs i x σ _ (y xs q) p
 ·have e : i = xs.length := by omega
  subst e
  exact .inl ⟨⟨xs, q, Nat.le_refl _⟩, hd σ H p⟩
end L2
namespace L2
open PySem PySem.Spec PyProof.Rows
abbrev R2 := V → V → Hp → VK → Prop
def OpR (X : Cx) (f : Value → Value → Sem Value) (r : R2) : Prop :=
 ∀ (pins : List (Addr × Obj)) (s : Shared) (σ : St) (H : Hp) (x y : V) (v u : Value) (Q : VK), Inv X pins σ H s → RelV x v → RelV y u → r x y H Q →
  wpAny (model X.prog X.w) X.A (f v u) (EP X pins σ Q) X.xe s
def CallR (X : Cx) (f : Value) (r : List V → Hp → VK → Prop) : Prop :=
 ∀ (pins : List (Addr × Obj)) (s : Shared) (σ : St) (H : Hp) (xs : List V) (us : List Value) (Q : VK), Inv X pins σ H s → Vals xs us → r xs H Q →
  wpAny (model X.prog X.w) X.A (call f us) (EP X pins σ Q) X.xe s
def TruR (X : Cx) (r : V → Hp → (Bool → Hp → Prop) → Prop) : Prop :=
 ∀ (pins : List (Addr × Obj)) (s : Shared) (σ : St) (H : Hp) (x : V) (v : Value) (Q : Bool → Hp → Prop), Inv X pins σ H s → RelV x v → r x H Q →
  wpAny (model X.prog X.w) X.A (truthy v) (TP X pins σ Q) X.xe s
def tOp (r : R2) (ta tb : TE) : TE := fun σ H Q => ta σ H fun x H1 => tb σ H1 fun y H2 => r x y H2 Q
def rI (C : Int → Int → Prop) (g : Int → Int → V) : R2 := fun x y H Q => ∃ i j, x = .int i ∧ y = .int j ∧ C i j ∧ Q (g i j) H
def rI0 (g : Int → Int → V) : R2 := fun x y H Q => ∃ i j, x = .int i ∧ y = .int j ∧ Q (g i j) H
section
variable {X : Cx} {a b c : Expr} {ta tb tc : TE} {pos : Pos}
theorem binT (ha : PE X a ta) (hb : PE X b tb) {pins : List (Addr × Obj)} {s : Shared} {σ : St} {H : Hp} {R : V → V → Hp → Prop} (I : Inv X pins σ H s)
  (h : ta σ H fun x H1 => tb σ H1 fun y H2 => R x y H2) {Q : Value → Shared → Prop} {f : Value → Value → Sem Value}
  (hf : ∀ v u s2 x y H2, Inv X pins σ H2 s2 → RelV x v → RelV y u → R x y H2 → wpAny (model X.prog X.w) X.A (f v u) Q X.xe s2) :
  wpAny (model X.prog X.w) X.A (eval a X.env) (fun v s₁ => wpAny (model X.prog X.w) X.A (eval b X.env) (fun u s₂ => wpAny (model X.prog X.w) X.A (f v u) Q X.xe s₂) X.xe s₁) X.xe s := by
 refine thn (ha pins s σ H _ I h) fun v s1 ⟨x, H1, I1, r1, q1⟩ => ?_
 refine thn (hb pins s1 σ H1 _ I1 q1) fun u s2 ⟨y, H2, I2, r2, q2⟩ => ?_
 exact hf v u s2 x y H2 I2 r1 r2 q2
theorem pe_op {op : Operator} {r : R2} (ho : OpR X (binaryOp op) r) (ha : PE X a ta) (hb : PE X b tb) : PE X (.BinOp a op b pos) (tOp r ta tb) := by
 intro pins s σ H Q I h
 exact wpAny_BinOp (binT ha hb I h fun v u s2 x y H2 I2 rx ry q => ho pins s2 σ H2 x y v u Q I2 rx ry q)
theorem opI {f : Value → Value → Sem Value} {C : Int → Int → Prop} {g : Int → Int → Int}
  (rule : ∀ (i j : Int) (t u : Tok) (s : Shared) (Q : Value → Shared → Prop) (E : Value → Shared → Prop), C i j → Q (.int (g i j) s.toks) { s with toks := s.toks + 1 } → wpAny (model X.prog X.w) X.A (f (.int i t) (.int j u)) Q E s) :
  OpR X f (rI C fun i j => .int (g i j)) := by
 intro pins s σ H x y v u Q I rx ry h
 obtain ⟨i, j, rfl, rfl, hc, q⟩ := h
 obtain ⟨t, rfl⟩ := rx
 obtain ⟨t', rfl⟩ := ry
 exact rule i j t t' s _ _ hc ⟨.int (g i j), H, I.tok _, ⟨_, rfl⟩, q⟩
theorem opI0 {f : Value → Value → Sem Value} {g : Int → Int → Int}
  (rule : ∀ (i j : Int) (t u : Tok) (s : Shared) (Q : Value → Shared → Prop) (E : Value → Shared → Prop), Q (.int (g i j) s.toks) { s with toks := s.toks + 1 } → wpAny (model X.prog X.w) X.A (f (.int i t) (.int j u)) Q E s) :
  OpR X f (rI0 fun i j => .int (g i j)) := by
 intro pins s σ H x y v u Q I rx ry h
 obtain ⟨i, j, rfl, rfl, q⟩ := h
 obtain ⟨t, rfl⟩ := rx
 obtain ⟨t', rfl⟩ := ry
 exact rule i j t t' s _ _ ⟨.int (g i j), H, I.tok _, ⟨_, rfl⟩, q⟩
theorem opB0 {f : Value → Value → Sem Value} {g : Int → Int → Bool}
  (rule : ∀ (i j : Int) (t u : Tok) (s : Shared) (Q : Value → Shared → Prop) (E : Value → Shared → Prop), Q (.bool (g i j)) s → wpAny (model X.prog X.w) X.A (f (.int i t) (.int j u)) Q E s) :
  OpR X f (rI0 fun i j => .bl (g i j)) := by
 intro pins s σ H x y v u Q I rx ry h
 obtain ⟨i, j, rfl, rfl, q⟩ := h
 obtain ⟨t, rfl⟩ := rx
 obtain ⟨t', rfl⟩ := ry
 exact rule i j t t' s _ _ ⟨.bl (g i j), H, I, rfl, q⟩
def CDiv (i j : Int) : Prop := 0 < j ∧ j < 1073741824
def CDivN (i j : Int) : Prop := j ≠ 0 ∧ j.natAbs < 1073741824
def CPow (i j : Int) : Prop := 0 ≤ j ∧ j ≤ 1000000 ∧ i.natAbs < 2 ^ 64
def CMul (i j : Int) : Prop := (-(2 ^ 64) < i ∧ i < 2 ^ 64) ∨ (-(2 ^ 64) < j ∧ j < 2 ^ 64)
theorem CMul.ok {i j : Int} (h : CMul i j) : IntMulOk i j := by
 rcases h with ⟨h1, h2⟩ | ⟨h1, h2⟩
 ·exact .of_left (intBits_le_64 h1 h2)
 ·exact .of_right (intBits_le_64 h1 h2)
theorem op_add : OpR X (binaryOp .Add) (rI0 fun i j => .int (i + j)) := opI0 fun _ _ _ _ _ _ _ q => add_int q
theorem op_sub : OpR X (binaryOp .Sub) (rI0 fun i j => .int (i - j)) := opI0 fun _ _ _ _ _ _ _ q => sub_int q
theorem op_mul : OpR X (binaryOp .Mult) (rI CMul fun i j => .int (i * j)) := opI fun _ _ _ _ _ _ _ hc q => mul_int q hc.ok
theorem op_fdiv : OpR X (binaryOp .FloorDiv) (rI CDiv fun i j => .int (i / j)) := opI fun i j _ _ _ _ _ hc q => by
 have h1 : (0 : Int) < j := hc.1
 have h2 : j < 1073741824 := hc.2
 exact floordiv_int (by omega) (by rw [Int.fdiv_eq_ediv_of_nonneg i (by omega)]; exact q) (.inl (PyProof.noPylong_small (by omega)))
theorem op_mod : OpR X (binaryOp .Mod) (rI (fun _ j => 0 < j) fun i j => .int (i % j)) := opI fun i j _ _ _ _ _ hc q => by
 have h1 : (0 : Int) < j := hc
 exact mod_int' (by omega) (by rw [Int.fmod_eq_emod_of_nonneg i (by omega)]; exact q)
end
section
variable {X : Cx} {a b c : Expr} {ta tb tc : TE} {pos : Pos}
theorem op_lt : OpR X (compareOp .Lt) (rI0 fun i j => .bl (decide (i < j))) := opB0 fun _ _ _ _ _ _ _ q => lt_int q
theorem op_le : OpR X (compareOp .LtE) (rI0 fun i j => .bl (decide (i ≤ j))) := opB0 fun _ _ _ _ _ _ _ q => le_int q
theorem op_gt : OpR X (compareOp .Gt) (rI0 fun i j => .bl (decide (j < i))) := opB0 fun _ _ _ _ _ _ _ q => gt_int q
theorem nomark (b : Expr) {op : CmpOp} (h : op ≠ .In := by decide) (h2 : op ≠ .NotIn := by decide) : behindInMarks op b = false := by
 have e1 : (op == CmpOp.In) = false := by cases op <;> first | rfl | exact absurd rfl h
 have e2 : (op == CmpOp.NotIn) = false := by cases op <;> first | rfl | exact absurd rfl h2
 cases b <;> simp [behindInMarks, e1, e2]
theorem pe_cmpR {op : CmpOp} {r : R2} (ho : OpR X (compareOp op) r) (ha : PE X a ta) (hb : PE X b tb) (hm : behindInMarks op b = false) : PE X (.Compare a [op] [b] pos) (tOp r ta tb) := by
 intro pins s σ H Q I h
 exact wpAny_Compare1 (binT ha hb I h fun v u s2 x y H2 I2 rx ry q => ho pins s2 σ H2 x y v u Q I2 rx ry q) hm
def tTest (t : TE) : TT := fun σ H Q => t σ H fun x H' => ∃ k, x = .bl k ∧ Q k H'
theorem pt_cmpR {op : CmpOp} {r : R2} (ho : OpR X (compareOp op) r) (ha : PE X a ta) (hb : PE X b tb) (hm : behindInMarks op b = false) : PT X (.Compare a [op] [b] pos) (tTest (tOp r ta tb)) := by
 intro pins s σ H Q I h
 refine wpAny_isTrue_Compare1 (thn (ha pins s σ H _ I h) fun v s1 ⟨x, H1, I1, r1, q1⟩ => thn (hb pins s1 σ H1 _ I1 q1) fun u s2 ⟨y, H2, I2, r2, q2⟩ =>
  thn (ho pins s2 σ H2 x y v u _ I2 r1 r2 q2) fun c s3 ⟨z, H3, I3, r3, k, e, q3⟩ => ?_) hm
 subst e
 cases r3
 exact wpAny_truthy_bool ⟨H3, I3, q3⟩
def tChain (r r' : R2) (ta tb tc : TE) : TE := fun σ H Q => ta σ H fun x H1 => tb σ H1 fun y H2 => r x y H2 fun z H3 => ∃ k, z = .bl k ∧
 (if k = true then tc σ H3 fun w' H4 => r' y w' H4 Q else Q (.bl false) H3)
theorem pe_chain {op op' : CmpOp} {r r' : R2} (ho : OpR X (compareOp op) r) (ho' : OpR X (compareOp op') r') (ha : PE X a ta) (hb : PE X b tb) (hc : PE X c tc)
  (hm : lastMarks [op, op'] [b, c] = false := by with_unfolding_all rfl) : PE X (.Compare a [op, op'] [b, c] pos) (tChain r r' ta tb tc) := by
 intro pins s σ H Q I h
 refine Compare_chain (thn (ha pins s σ H _ I h) fun v s1 ⟨x, H1, I1, r1, q1⟩ => chain_link (thn (hb pins s1 σ H1 _ I1 q1) fun u s2 ⟨y, H2, I2, r2, q2⟩ =>
  thn (ho pins s2 σ H2 x y v u _ I2 r1 r2 q2) fun d s3 ⟨z, H3, I3, r3, k, e, q3⟩ => ?_)) hm
 subst e
 cases r3
 refine wpAny_truthy_bool ?_
 cases k with
 | false => exact ite_ff ⟨.bl false, H3, I3, rfl, q3⟩
 | true => exact ite_tt (chain_last (thn (hc pins s3 σ H3 _ I3 q3) fun w' s4 ⟨z', H4, I4, r4, q4⟩ => ho' pins s4 σ H4 y z' u w' Q I4 r2 r4 q4))
def TruV (K : PySem.W.Frag) (x : V) (H : Hp) (k : Bool) : Prop :=
 match x with
 | .non => k = false
 | .bl b => k = b
 | .int i => k = (i != 0)
 | .str y => y.length ≤ sizeLine ∧ k = ((y.length : Int) != 0)
 | .byt y => y.size ≤ sizeLine ∧ k = ((y.size : Int) != 0)
 | .ref p => (∃ xs, SqL K H p xs ∧ k = !xs.isEmpty) ∨ (∃ xs, SqT K H p xs ∧ k = !xs.isEmpty) ∨ ∃ kvs, H p = some (.dK kvs) ∧ k = !kvs.isEmpty
 | _ => False
theorem isEmpty_kv {κ : Type} {kvs : List (κ × V)} {vs : List (κ × Value)} (r : KV kvs vs) : (!vs.isEmpty) = !kvs.isEmpty := by
 cases r <;> rfl
theorem isEmpty_of {xs : List V} {its : List Value} (r : Vals xs its) : (!its.toArray.isEmpty) = !xs.isEmpty := by
 cases r <;> simp
theorem line63 : (sizeLine : Nat) < 2 ^ 63 := by rw [sizeLine_eq]; decide
theorem tru_ok : TruR X (fun x H Q => ∃ k, TruV X.K x H k ∧ Q k H) := by
 intro pins s σ H x v Q I rx h
 obtain ⟨k, e, q⟩ := h
 have hl := line63
 have hs : sizeLine = 16777216 := sizeLine_eq
 cases x with
 | non =>
  cases rx
  have e' : k = false := e
  subst e'
  exact truthy_none ⟨H, I, q⟩
 | bl b =>
  cases rx
  have e' : k = b := e
  subst e'
  exact wpAny_truthy_bool ⟨H, I, q⟩
 | int i =>
  obtain ⟨t, rfl⟩ := rx
  have e' : k = (i != 0) := e
  subst e'
  exact PySem.P.truthy_int ⟨H, I, q⟩
 | str y =>
  obtain ⟨t, rfl⟩ := rx
  obtain ⟨hy, e'⟩ : y.length ≤ sizeLine ∧ k = ((y.length : Int) != 0) := e
  subst e'
  exact PySem.P.truthy_str (by omega) ⟨H, I.tok _, q⟩
 | byt y =>
  obtain ⟨t, rfl⟩ := rx
  obtain ⟨hy, e'⟩ : y.size ≤ sizeLine ∧ k = ((y.size : Int) != 0) := e
  subst e'
  exact PySem.W.truthy_bytes (by omega) ⟨H, I.tok _, q⟩
 | ref p =>
  cases rx
  have e' : (∃ xs, SqL X.K H p xs ∧ k = !xs.isEmpty) ∨ (∃ xs, SqT X.K H p xs ∧ k = !xs.isEmpty) ∨ ∃ kvs, H p = some (.dK kvs) ∧ k = !kvs.isEmpty := e
  rcases e' with ⟨xs, hx, e'⟩ | ⟨xs, hx, e'⟩ | ⟨kvs, hx, e'⟩
  ·subst e'
   obtain ⟨its, r, pl, hz⟩ := I.list hx
   have hlen := r.length
   exact wpAny_truthy_list pl.isList (by simp only [List.size_toArray]; omega) ⟨H, I.tok _, by rw [isEmpty_of r]; exact q⟩
  ·subst e'
   obtain ⟨its, r, pl, hz⟩ := I.tuple hx
   have hlen := r.length
   exact truthy_tuple pl (by simp only [List.size_toArray]; omega) ⟨H, I.tok _, by rw [isEmpty_of r]; exact q⟩
  ·subst e'
   obtain ⟨hz, hS, vs, r, m⟩ : kvs.length ≤ sizeLine ∧ (p == sysModules) = false ∧ ∃ vs, KV kvs vs ∧ s.heap.DictOf (mixKind X.prog X.w) p vs := I.hok p _ hx
   have hlen : kvs.length = vs.length := Paired.length r
   exact wpAny_truthy_dict hS m (by omega) ⟨H, I.tok _, by rw [isEmpty_kv r]; exact q⟩
 | _ => exact (show False from e).elim
theorem pt_truth (ha : PE X a ta) (he : ∀ whole, isTrue a X.env whole = (do let v ← whole; standAt a.pos; holding [v] (truthy v))) :
  PT X a (fun σ H Q => ta σ H fun x H' => ∃ k, TruV X.K x H' k ∧ Q k H') := by
 intro pins s σ H Q I h
 exact isTrue_plain (thn (ha pins s σ H _ I h) fun v s1 ⟨x, H1, I1, r1, q1⟩ => tru_ok pins s1 σ H1 x v Q I1 r1 q1) (he _)
theorem vals1 {x : V} {us : List Value} (r : Vals [x] us) : ∃ u, us = [u] ∧ RelV x u := by
 cases r with
 | cons r1 r2 => cases r2; exact ⟨_, rfl, r1⟩
theorem vals2 {x y : V} {us : List Value} (r : Vals [x, y] us) : ∃ u w', us = [u, w'] ∧ RelV x u ∧ RelV y w' := by
 cases r with
 | cons r1 r2 =>
  cases r2 with
  | cons r3 r4 => cases r4; exact ⟨_, _, rfl, r1, r3⟩
theorem call_min2 (hc : X.calm = true) : CallR X (.builtin "min") (fun xs H Q => ∃ i j, xs = [.int i, .int j] ∧ Q (.int (if j < i then j else i)) H) := by
 intro pins s σ H xs us Q I r h
 obtain ⟨i, j, rfl, q⟩ := h
 obtain ⟨u, w', rfl, ⟨t, rfl⟩, ⟨t', rfl⟩⟩ := vals2 r
 refine min_two_ints (I.ok.hd hc) fun h' tk k => ⟨_, H, I.kept k, ?_, q⟩
 by_cases hj : j < i
 ·rw [if_pos hj, if_pos hj]; exact ⟨_, rfl⟩
 ·rw [if_neg hj, if_neg hj]; exact ⟨_, rfl⟩
def LenV (K : PySem.W.Frag) (x : V) (H : Hp) (n : Nat) : Prop :=
 match x with
 | .str y => y.length ≤ sizeLine ∧ n = y.length
 | .byt y => y.size ≤ sizeLine ∧ n = y.size
 | .ref p => (∃ xs, SqL K H p xs ∧ n = xs.length) ∨ ∃ xs, SqT K H p xs ∧ n = xs.length
 | _ => False
theorem call_len : CallR X (.builtin "len") (fun xs H Q => ∃ x n, xs = [x] ∧ LenV X.K x H n ∧ Q (.int n) H) := by
 intro pins s σ H xs us Q I r h
 obtain ⟨x, n, rfl, e, q⟩ := h
 obtain ⟨u, rfl, rx⟩ := vals1 r
 have hl := line63
 have hs : sizeLine = 16777216 := sizeLine_eq
 cases x with
 | str y =>
  obtain ⟨t, rfl⟩ := rx
  obtain ⟨hy, e'⟩ : y.length ≤ sizeLine ∧ n = y.length := e
  subst e'
  exact len_str (by omega) ⟨.int _, H, I.tok _, ⟨_, rfl⟩, q⟩
 | byt y =>
  obtain ⟨t, rfl⟩ := rx
  obtain ⟨hy, e'⟩ : y.size ≤ sizeLine ∧ n = y.size := e
  subst e'
  exact PySem.W.len_bytes (by omega) ⟨.int _, H, I.tok _, ⟨_, rfl⟩, q⟩
 | ref p =>
  cases rx
  have e' : (∃ xs, SqL X.K H p xs ∧ n = xs.length) ∨ ∃ xs, SqT X.K H p xs ∧ n = xs.length := e
  rcases e' with ⟨xs, hx, e'⟩ | ⟨xs, hx, e'⟩
  ·subst e'
   obtain ⟨its, r', pl, hz⟩ := I.list hx
   have hlen := r'.length
   exact Calls.call_len_list pl.isList (by simp only [List.size_toArray]; omega) ⟨.int xs.length, H, I.tok _, ⟨_, by simp only [List.size_toArray]; rw [hlen]⟩, q⟩
  ·subst e'
   obtain ⟨its, r', pl, hz⟩ := I.tuple hx
   have hlen := r'.length
   exact len_tuple pl (by simp only [List.size_toArray]; omega) ⟨.int xs.length, H, I.tok _, ⟨_, by simp only [List.size_toArray]; rw [hlen]⟩, q⟩
 | _ => exact (show False from e).elim
end
end L2
namespace L2
open PySem PySem.Spec PyProof.Rows
structure ObjM (h : Heap) (x dx C : Addr) (mA : Str → Option Value) : Prop where
 obj : h.get? x = some (PySem.W.instObj C dx)
 ns : h.Ns1 dx mA
 ne : dx ≠ x
section
variable {prog : Program} {w : World} {A : Around} {E : Value → Shared → Prop} {s : Shared} {K : PySem.W.Frag} {x dx C f : Addr} {mA : Str → Option Value} {name : Str} {v : Value}
end
section
variable {P : Program} {w : World} {H H' : Hp} {h h' : Heap} {a C dx : Addr} {fs fs' : List (Str × V)}
end
structure Cls (K : PySem.W.Frag) (C : Addr) : Prop where
 pg : PySem.W.plainGet K C Str.empty = true
 hd : PySem.W.hasDictIn K C = true
 po : PySem.W.plainOver K C = true
 sa : PySem.W.findIn K (.ref C) "__setattr__" = some (some (.builtin "object.__setattr__"))
structure Con (K : PySem.W.Frag) (C : Addr) (f : Str) (v : V) (u : Value) : Prop where
 at_ : PySem.W.findIn K (.ref C) f = some (some u)
 rel : RelV v u
 get : PySem.W.specialIn K u "__get__" = some none
 cp : PySem.W.copiedNames.contains f = false
structure Meth (K : PySem.W.Frag) (C : Addr) (m : Str) (f : Addr) : Prop where
 at_ : PySem.W.findIn K (.ref C) m = some (some (.ref f))
 fn : PySem.W.isFn K (.ref f) = true
 kp : PySem.W.keepIn K (.ref f) = true
section
variable {X : Cx} {pins : List (Addr × Obj)} {σ : St} {H : Hp} {s : Shared} {a C dx : Addr} {fs : List (Str × V)} {f : Str} {v : V} {A : Around} {E : Value → Shared → Prop}
end
section
variable {X : Cx} {o e value : Expr} {f : Str} {pos pos' tpos : Pos} {ta tv : TE}
end
section
variable {X : Cx} {pins : List (Addr × Obj)} {σ : St} {H : Hp} {s : Shared} {A : Around} {E : Value → Shared → Prop} {Q : Value → Shared → Prop} {c : Value} {b : Bool}
inductive TyOf (K : PySem.W.Frag) (H : Hp) : V → Value → Prop where
 | non : TyOf K H .non (.type "NoneType")
 | bl (x : Bool) : TyOf K H (.bl x) (.type "bool")
 | int (i : Int) : TyOf K H (.int i) (.type "int")
 | str (x : Str) : TyOf K H (.str x) (.type "str")
 | flt (x : UInt64) : TyOf K H (.flt x) (.type "float")
 | lst {a : Addr} {xs : List V} (e : H a = some (.lst xs)) : TyOf K H (.ref a) (.type "list")
 | frz {a : Addr} {o : Obj} {xs : List V} (e : H a = some (.frz o (.lst xs))) : TyOf K H (.ref a) (.type "list")
 | tup {a : Addr} {xs : List V} (e : H a = some (.tup xs)) : TyOf K H (.ref a) (.type "tuple")
 | dK {a : Addr} {kvs : List (Key × V)} (e : H a = some (.dK kvs)) : TyOf K H (.ref a) (.type "dict")
 | dT {a : Addr} {kvs : List (List Key × V)} (e : H a = some (.dT kvs)) : TyOf K H (.ref a) (.type "dict")
 | ins {a C dx : Addr} {fs : List (Str × V)} (e : H a = some (.ins C dx fs)) (cl : Cls K C) (ha : PySem.W.findIn K (.ref C) "__class__" = some (some (.builtin "object.__class__")))
   (hn : PySem.W.specialIn K (.builtin "object.__class__") "__get__" = some (some (.builtin "getset_descriptor.__get__"))) (htk : PySem.W.takesIn K (.builtin "object.__class__") = some true)
   (hm : PySem.W.mroIn K C (.type "object") = some true) : TyOf K H (.ref a) (.ref C)
end
end L2
namespace L2
open PySem PySem.Spec PyProof.Rows
structure Room (k : Nat) (A : Around) : Prop where
 hd : A.handled = none
 dp : A.depth + 3 * k + 5 < recursionLimit
 un : A.units + 16 * k + 200 < cLine
theorem Room.mono {j k : Nat} {A : Around} (r : Room k A) (h : j ≤ k) : Room j A := ⟨r.hd, by have := r.dp; omega, by have := r.un; omega⟩
theorem Room.deeper {k : Nat} {A : Around} (r : Room (k + 1) A) (env : Env) : Room k (A.deeper env) :=
 ⟨r.hd, by have := r.dp; show A.depth + 1 + 3 * k + 5 < _; omega, by have := r.un; show A.units + 3 + 16 * k + 200 < _; omega⟩
theorem Room.depth {k : Nat} {A : Around} (r : Room k A) : A.depth < recursionLimit := by have := r.dp; omega
theorem Room.units {k : Nat} {A : Around} (r : Room k A) : A.units + 64 < cLine := by have := r.un; omega
def tNil : TA := fun _ H Q => Q [] H
def tCons (ta : TE) (tr : TA) : TA := fun σ H Q => ta σ H fun x H1 => tr σ H1 fun xs H2 => Q (x :: xs) H2
section
variable {X : Cx} {e : Expr} {es : List Expr} {te : TE} {t : TA} {pos : Pos}
theorem pa_nil : PA X [] tNil := fun _ _ _ _ H Q I h => Calls.spliced_nil ⟨[], H, I, .nil, h⟩
theorem pa_cons (ha : PE X e te) (hr : PA X es t) (hs : starEach (e :: es) X.env = (false, eval e X.env) :: starEach es X.env := by rfl) : PA X (e :: es) (tCons te t) := by
 intro pos pins s σ H Q I h
 rw [hs]
 show wpAny _ _ (spliced ((false, eval e X.env) :: backTo pos (starEach es X.env))) _ _ s
 refine Calls.spliced_cons (thn (ha pins s σ H _ I h) fun u s1 ⟨x, H1, I1, r1, q1⟩ => ?_)
 exact thn (hr pos pins s1 σ H1 _ I1 q1) fun us s2 ⟨xs, H2, I2, r2, q2⟩ => ⟨x :: xs, H2, I2, .cons r1 r2, q2⟩
def tTup (t : TA) : TE := fun σ H Q => t σ H fun xs H1 => xs.length ≤ sizeLine ∧ ∀ p, H1 p = none → Q (.ref p) (upd H1 p (.tup xs))
def tLst (t : TA) : TE := fun σ H Q => t σ H fun xs H1 => xs.length ≤ sizeLine ∧ ∀ p, H1 p = none → Q (.ref p) (upd H1 p (.lst xs))
theorem pe_tup {x1} (h : PA X es t) : PE X (.Tuple es x1 pos) (tTup t) := by
 intro pins s σ H Q I hq
 refine wpAny_Tuple_spliced (thn (h pos pins s σ H _ I hq) fun us s1 ⟨xs, H1, I1, r, z, q⟩ => ⟨by rw [← r.length]; exact z, ?_⟩)
 have hf : H1 s1.heap.objs.size = none := I1.hok.fresh (Nat.le_refl _)
 refine ⟨.ref s1.heap.objs.size, upd H1 s1.heap.objs.size (.tup xs), I1.laid (t' := s1.toks) (fun b u e => Heap.get?_push_of_some _ e) (Nat.le_refl _) ?_, rfl, q _ hf⟩
 exact ⟨z, us, r, TupN.new _ _⟩
theorem pe_lst (h : PA X es t) : PE X (.List es pos) (tLst t) := by
 intro pins s σ H Q I hq
 refine wpAny_List_spliced (thn (h pos pins s σ H _ I hq) fun us s1 ⟨xs, H1, I1, r, z, q⟩ => ⟨by rw [← r.length]; exact z, ?_⟩)
 have hf : H1 s1.heap.objs.size = none := I1.hok.fresh (Nat.le_refl _)
 refine ⟨.ref s1.heap.objs.size, upd H1 s1.heap.objs.size (.lst xs), I1.laid (t' := s1.toks) (fun b u e => Heap.get?_push_of_some _ e) (Nat.le_refl _) ?_, rfl, q _ hf⟩
 exact ⟨z, us, 0, r, Heap.get?_push_size _ rfl⟩
end
abbrev Sp := List V → Hp → VK → XK → Prop
abbrev CXT := List Env → Hp → Shared → XK → Value → Shared → Prop
structure Env0 (P : Program) (w : World) (K : PySem.W.Frag) (mg : Str → Option Value) (base : Heap) (A : Around) (outer : List Env) (s : Shared) (H : Hp) : Prop where
 frames : A.frames = some outer
 mod : Mod K mg base
 bs : ∀ b o, base.get? b = some o → s.heap.get? b = some o ∧ H b = none
 bsz : base.objs.size ≤ s.heap.objs.size
 funs : s.heap.FunFrames base outer
 frf : ∀ b ∈ frs outer, H b = none
 hok : HOk P w H s.heap
 bare : AllBare s.gens
def CE (outer : List Env) (P : Program) (w : World) (H : Hp) (s : Shared) (Q : VK) (u : Value) (s' : Shared) : Prop :=
 ∃ v H', s'.os = s.os ∧ AllBare s'.gens ∧ Un (frs outer) [] H H' s.heap s'.heap ∧ HOk P w H' s'.heap ∧ RelV v u ∧ Q v H'
def CR (CX : CXT) (outer : List Env) (P : Program) (w : World) (H : Hp) (s : Shared) (Q : VK) (E : XK) (r : Result) (s' : Shared) : Prop :=
 match r with
 | .ok (.ret u) => CE outer P w H s Q u s'
 | .ok _ => False
 | .error e => CX outer H s E e s'
structure FnOk (P : Program) (w : World) (K : PySem.W.Frag) (mg : Str → Option Value) (base : Heap) (CX : CXT) (k : Nat) (f : Addr) (fd : FuncData) (ps : List Str) (sp : Sp) : Prop where
 len : ∀ vs H Q E, sp vs H Q E → vs.length = ps.length
 run : ∀ (A : Around) (outer : List Env) (s : Shared) (H : Hp) (args : Args) (us : List Value) (vs : List V) (Q : VK) (E : XK), Room k A → Env0 P w K mg base A outer s H → BindsTo s fd args (ps.zip us) → Vals vs us → sp vs H Q E →
  codeAny (model P w) A (.call (.ref f) args) (CR CX outer P w H s Q E) s
theorem FnOk.imp {P : Program} {w : World} {K : PySem.W.Frag} {mg : Str → Option Value} {base : Heap} {CX : CXT} {k : Nat} {f : Addr} {fd : FuncData} {ps : List Str} {sp sp' : Sp} (F : FnOk P w K mg base CX k f fd ps sp)
  (h : ∀ vs H Q E, sp' vs H Q E → sp vs H Q E) : FnOk P w K mg base CX k f fd ps sp' :=
 ⟨fun vs H Q E q => F.len vs H Q E (h _ _ _ _ q), fun A outer s H args us vs Q E hr he hb hv hs => F.run A outer s H args us vs Q E hr he hb hv (h _ _ _ _ hs)⟩
section
variable {X : Cx} {pins : List (Addr × Obj)} {σ : St} {H : Hp} {s s' : Shared}
theorem Inv.env0 (I : Inv X pins σ H s) : Env0 X.prog X.w X.K X.mg X.base X.A X.stack s H :=
 ⟨I.ok.frames, I.ok.mod, I.bs, Nat.le_trans I.ok.bsz I.sz, I.stack, I.stkFree, I.hok, I.bare⟩
theorem Inv.after {Q : VK} {u : Value} (I : Inv X pins σ H s) (h : CE X.stack X.prog X.w H s Q u s') : EP X pins σ Q u s' := by
 obtain ⟨v, H', os, bare, un, hok, r, q⟩ := h
 obtain ⟨hh, g, d, t, os'⟩ := s'
 obtain rfl : os' = s.os := os
 exact ⟨v, H', I.call (h' := hh) (g' := g) (d' := d) (t' := t) (ch := []) un hok bare (fun b z => absurd z (by simp)), r, q⟩
end
def tCall (sp : Sp) (dvs : List V) (E : XK) (t : TA) : TE := fun σ H Q => t σ H fun vs H1 => sp (vs ++ dvs) H1 Q E
def Binds (K : PySem.W.Frag) (fd : FuncData) (ps : List Str) (ds : List Value) : Prop :=
 ∀ (s : Shared) (us : List Value), K.In s.heap → (us ++ ds).length = ps.length → BindsTo s fd ⟨us, []⟩ (ps.zip (us ++ ds))
theorem Binds.all {K : PySem.W.Frag} {fd : FuncData} {ps : List Str} (h : ∀ us : List Value, us.length = ps.length → bindArgs fd ⟨us, []⟩ = pure (ps.zip us)) : Binds K fd ps [] := fun s us _ hl => by
 rw [List.append_nil] at hl ⊢
 exact .of_eq (h us hl)
def Passes (CX : CXT) (X : Cx) (E : XK) : Prop := ∀ (pins : List (Addr × Obj)) (σ : St) (H : Hp) (s : Shared) (e : Value) (s' : Shared), Inv X pins σ H s → CX X.stack H s E e s' → X.xe e s'
section
variable {X : Cx} {CX : CXT} {k : Nat} {f C : Addr} {fd : FuncData} {ps : List Str} {sp : Sp} {dvs : List V} {ds : List Value} {E : XK} {x m : Str} {p pos apos : Pos} {e o : Expr} {es : List Expr} {ta : TE} {t : TA}
theorem run_fn {pins : List (Addr × Obj)} {σ : St} {H : Hp} {s : Shared} {Q : VK} {us : List Value} {vs : List V} (F : FnOk X.prog X.w X.K X.mg X.base CX k f fd ps sp) (hr : Room k X.A) (hb : Binds X.K fd ps ds) (hd : Vals dvs ds) (hx : Passes CX X E)
  (I : Inv X pins σ H s) (r : Vals vs us) (h : sp (vs ++ dvs) H Q E) : wpAny (model X.prog X.w) X.A (call (.ref f) us) (EP X pins σ Q) X.xe s := by
 have r2 : Vals (vs ++ dvs) (us ++ ds) := r.append hd
 have hl : (us ++ ds).length = ps.length := by rw [← r2.length]; exact F.len _ _ _ _ h
 refine wpAny_call (codeAny_mono (F.run X.A X.stack s H ⟨us, []⟩ (us ++ ds) (vs ++ dvs) Q E hr I.env0 (hb s us I.kIn hl) r2 h) fun r s' hq => ?_)
 cases r with
 | error e => exact hx pins σ H s e s' I hq
 | ok fl =>
  cases fl with
  | ret u => exact I.after hq
  | next => exact False.elim hq
  | brk => exact False.elim hq
  | cont => exact False.elim hq
theorem pe_call (F : FnOk X.prog X.w X.K X.mg X.base CX k f fd ps sp) (hr : Room k X.A) (hg : Gl X x) (hm : X.mg x = some (.ref f)) (hk : PySem.W.keepIn X.K (.ref f) = true) (hb : Binds X.K fd ps ds) (hd : Vals dvs ds) (hx : Passes CX X E)
  (ha : PA X (e :: es) t) (hdb : (x == ("__debug__" : Str)) = false := by decide) (he : starEach (e :: es) X.env = (false, eval e X.env) :: starEach es X.env := by rfl) (hpl : (backTo pos (starEach es X.env)).any (·.1) = false := by rfl) :
  PE X (.Call (.Name x p) (e :: es) [] pos) (tCall sp dvs E t) := by
 intro pins s σ H Q I h
 refine wpAny_Call_Name_kw (ld_glob I hg hm ?_ hdb)
 refine PySem.W.callWith_K (h₀ := X.base) I.ok.mod.kin hk (thn (ha pos pins s σ H _ I h) fun us s1 ⟨vs, H1, I1, r, q⟩ => ⟨I1.kIn, ?_⟩) he hpl
 exact run_fn F hr hb hd hx I1 r q
structure Mk (K : PySem.W.Frag) (C f : Addr) : Prop where
 makes : PySem.W.makesIn K C = true
 init : PySem.W.findIn K (.ref C) "__init__" = some (some (.ref f))
 fn : PySem.W.isFn K (.ref f) = true
 kp : PySem.W.keepIn K (.ref C) = true
end
section
variable {X : Cx} {CX : CXT} {k : Nat} {f C : Addr} {fd : FuncData} {ps ks : List Str} {sp : Sp} {E : XK} {x m : Str} {p pos apos kpos : Pos} {e o : Expr} {es : List Expr} {kws : List Keyword} {te ta : TE} {t tk : TA} {nm : Option Str}
structure KBinds (K : PySem.W.Frag) (fd : FuncData) (ps ks : List Str) (g : List Value → List Value → List Value) (gV : List V → List V → List V) : Prop where
 to : ∀ (s : Shared) (us ws : List Value), K.In s.heap → (g us ws).length = ps.length → BindsTo s fd ⟨us, ks.zip ws⟩ (ps.zip (g us ws))
 rel : ∀ {vs : List V} {us : List Value} {zs : List V} {ws : List Value}, Vals vs us → Vals zs ws → Vals (gV vs zs) (g us ws)
variable {g : List Value → List Value → List Value} {gV : List V → List V → List V}
end
structure FnScope (N P : List Str) (sc : Scope) : Prop where
 kind : sc.kind = .function
 co : sc.isCoroutine = false
 gen : sc.isGenerator = false
 nd : N.Nodup
 pre : N.take P.length = P
 par : ∀ x ∈ P, sc.names.lookup x = some .local ∨ sc.names.lookup x = some .cell
 nofree : ∀ y ∈ sc.names, y.2 ≠ .free
theorem bindL_out {kindOf : Str → Option NameKind} {x : Str} : ∀ {binds : List (Str × Value)} {m : Str → Option Value}, (∀ v, (x, v) ∉ binds) → bindL kindOf binds m x = m x
 | [], _, _ => rfl
 | (n, v) :: r, m, h => by
  unfold bindL
  rw [bindL_out fun w hw => h w (List.mem_cons_of_mem _ hw)]
  split
  ·have : x ≠ n := by rintro rfl; exact h v List.mem_cons_self
   simp [this]
  ·rfl
theorem bindC_out {kindOf : Str → Option NameKind} {x : Str} : ∀ {binds : List (Str × Value)} {m : Str → Option Value}, (∀ v, (x, v) ∉ binds) → bindC kindOf binds m x = m x
 | [], _, _ => rfl
 | (n, v) :: r, m, h => by
  unfold bindC
  rw [bindC_out fun w hw => h w (List.mem_cons_of_mem _ hw)]
  split
  ·rfl
  ·have : x ≠ n := by rintro rfl; exact h v List.mem_cons_self
   simp [this]
theorem bindL_get {kindOf : Str → Option NameKind} {x : Str} {v : Value} : ∀ {P : List Str} {vs : List Value} {i : Nat} {m : Str → Option Value}, P.Nodup → P[i]? = some x → vs[i]? = some v → kindOf x = some .local →
  bindL kindOf (P.zip vs) m x = some v
 | [], _, _, _, _, h, _, _ => by simp at h
 | _ :: _, [], _, _, _, _, h, _ => by simp at h
 | p :: P, w :: vs, 0, m, nd, h1, h2, hk => by
  simp at h1 h2; subst h1; subst h2
  show bindL kindOf ((p, w) :: P.zip vs) m p = _
  unfold bindL
  rw [bindL_out fun v hv => (List.nodup_cons.mp nd).1 (List.of_mem_zip hv).1, if_pos hk]
  simp
 | p :: P, w :: vs, i + 1, m, nd, h1, h2, hk => by
  show bindL kindOf ((p, w) :: P.zip vs) m x = _
  unfold bindL
  exact bindL_get (i := i) (List.nodup_cons.mp nd).2 (by simpa using h1) (by simpa using h2) hk
theorem bindC_get {kindOf : Str → Option NameKind} {x : Str} {v : Value} : ∀ {P : List Str} {vs : List Value} {i : Nat} {m : Str → Option Value}, P.Nodup → P[i]? = some x → vs[i]? = some v → kindOf x ≠ some .local →
  bindC kindOf (P.zip vs) m x = some v
 | [], _, _, _, _, h, _, _ => by simp at h
 | _ :: _, [], _, _, _, _, h, _ => by simp at h
 | p :: P, w :: vs, 0, m, nd, h1, h2, hk => by
  simp at h1 h2; subst h1; subst h2
  show bindC kindOf ((p, w) :: P.zip vs) m p = _
  unfold bindC
  rw [bindC_out fun v hv => (List.nodup_cons.mp nd).1 (List.of_mem_zip hv).1, if_neg hk]
  simp
 | p :: P, w :: vs, i + 1, m, nd, h1, h2, hk => by
  show bindC kindOf ((p, w) :: P.zip vs) m x = _
  unfold bindC
  exact bindC_get (i := i) (List.nodup_cons.mp nd).2 (by simpa using h1) (by simpa using h2) hk
def start (N : List Str) (vs : List V) : St := vs.map some ++ List.replicate (N.length - vs.length) none
def cxOf (CX : CXT) (P : Program) (w : World) (K : PySem.W.Frag) (mg : Str → Option Value) (base : Heap) (N : List Str) (qual : Str) (scope : Scope) (f : Addr) (cd : Value) (A : Around) (outer : List Env) (s : Shared) (H : Hp) (E : XK) : Cx where
 prog := P
 w := w
 K := K
 mg := mg
 base := base
 A := A.deeper (envOfC qual scope s.heap.objs.size f cd)
 N := N
 s₀ := s
 H₀ := H
 env := envOfC qual scope s.heap.objs.size f cd
 outer := outer
 stack := envOfC qual scope s.heap.objs.size f cd :: outer
 ex := []
 calm := true
 fn := fun _ => true
 pn := []
 xe := fun e s' => wpAny (model P w) (A.deeper (envOfC qual scope s.heap.objs.size f cd)) (leaving (envOfC qual scope s.heap.objs.size f cd) e) (fun _ s'' => CX outer H s E e s'') (fun e' s'' => CX outer H s E e' s'') s'
theorem cell_has {sc : Scope} {n : Nat} {x : Str} (h : sc.names.lookup x = some .cell) : ∃ c, (cellsFrom n sc.names []).lookup x = some c := by
 have q := PySem.W.cellsFrom_some sc.names n [] (.inl h)
 exact Option.isSome_iff_exists.mp q
theorem inv_start {CX : CXT} {P : Program} {w : World} {K : PySem.W.Frag} {mg : Str → Option Value} {base : Heap} {N ps : List Str} {qual : Str} {scope : Scope} {f : Addr} {cd : Value} {A : Around} {outer : List Env} {s s1 : Shared} {H : Hp} {E : XK} {us : List Value} {vs : List V}
  (S : FnScope N ps scope) (hd : A.handled = none) (e0 : Env0 P w K mg base A outer s H) (hl : vs.length = ps.length) (r : Vals vs us)
  (x : InCallC s s.heap.objs.size (bindL (envOfC qual scope s.heap.objs.size f cd).kindOf (ps.zip us) fun _ => none) (cellsFrom (s.heap.objs.size + 1) scope.names []) (bindC (envOfC qual scope s.heap.objs.size f cd).kindOf (ps.zip us) fun _ => none) s1) :
  Inv (cxOf CX P w K mg base N qual scope f cd A outer s H E) [] (start N vs) H s1 := by
 have hpl : ps.length ≤ N.length := by have := congrArg List.length S.pre; rw [List.length_take] at this; omega
 obtain ⟨h1, tk, rfl, hk⟩ := x.done
 have noA : ∀ b : Addr, b ∉ (cxOf CX P w K mg base N qual scope f cd A outer s H E).ex := fun b z => absurd (show b ∈ ([] : List Addr) from z) (by simp)
 refine ⟨⟨e0.mod, S.kind, rfl, rfl, Nat.le_refl _, fun y z c h1 h2 => ?_, fun y hy => ?_, fun y c _ h => ?_, fun _ => hd, Around.frames_deeper e0.frames, .inr ⟨rfl, rfl⟩, fun b z => absurd z (noA b), e0.bs, e0.bsz, fun b _ _ => noA b, fun b z => absurd z (noA b), e0.funs, e0.frf⟩,
  rfl, e0.bare, Un.kept hk, ⟨_, x.toInCall.ns, fun i y v h1 h2 h3 => ?_⟩, fun y c h => ⟨_, x.cell y c h⟩, e0.hok.fresh (Nat.le_refl _), fun y c h => ?_, fun p hp => absurd (show p ∈ ([] : List (Addr × Obj)) from hp) (by simp), e0.hok.kept hk, ?_⟩
 ·exact name_of_addr x.apart (PySem.mem_of_lookup h1) (PySem.mem_of_lookup h2)
 ·have hy : scope.names.lookup y = some .cell ∨ scope.names.lookup y = some .free := hy
  rcases hy with hy | hy
  ·exact cell_has hy
  ·exact absurd rfl (S.nofree _ (PySem.mem_of_lookup hy))
 ·exact Nat.le_of_lt (x.above y c (PySem.mem_of_lookup h))
 ·have hi : i < vs.length := by
   unfold start at h2
   by_cases hi : i < vs.length
   ·exact hi
   ·rw [List.getElem?_append_right (by simpa using hi)] at h2
    rw [List.getElem?_replicate] at h2
    split at h2 <;> cases h2
  have ha : vs[i]? = some v := by
   unfold start at h2
   rw [List.getElem?_append_left (by simpa using hi), List.getElem?_map] at h2
   cases e : vs[i]? with
   | none => rw [e] at h2; cases h2
   | some a => rw [e] at h2; cases h2; rfl
  obtain ⟨u, hu, rv⟩ := r.get ha
  have hp : ps[i]? = some y := by
   rw [← S.pre, List.getElem?_take_of_lt (by omega)]; exact h1
  have ndP : ps.Nodup := by rw [← S.pre]; exact S.nd.sublist (List.take_sublist _ _)
  refine ⟨u, rv, ?_⟩
  rcases S.par y (List.mem_of_getElem? hp) with k | k
  ·exact .inl ⟨k, bindL_get ndP hp hu k⟩
  ·obtain ⟨c, e⟩ := cell_has (n := s.heap.objs.size + 1) k
   refine .inr ⟨.inl k, c, e, ?_⟩
   have q := x.cell y c e
   rw [bindC_get ndP hp hu (by show scope.names.lookup y ≠ _; rw [k]; decide)] at q
   exact q
 ·exact e0.hok.fresh (Nat.le_of_lt (x.above y c (PySem.mem_of_lookup h)))
 ·unfold start
  show _ = N.length
  rw [List.length_append, List.length_map, List.length_replicate]
  omega
theorem fn_of {CX : CXT} {P : Program} {w : World} {K : PySem.W.Frag} {mg : Str → Option Value} {base : Heap} {k : Nat} {f : Addr} {name qual : Str} {params : Arguments} {body : List Stmt} {scope : Scope} {dV kV doc pm cdv ct oc : Value} {an od : Option Addr}
  {osl : Array (Option Value)} {N ps : List Str} {sp : Sp} (lk : K.lookup f = some ⟨oc, od, .func (PySem.W.fnOf name qual params body scope dV kV doc pm an cdv ct), osl⟩) (hcd : PySem.W.codeIn K cdv qual = true) (S : FnScope N ps scope)
  (len : ∀ vs H Q E, sp vs H Q E → vs.length = ps.length)
  (hbody : ∀ (A : Around) (outer : List Env) (s : Shared) (H : Hp) (vs : List V) (Q : VK) (E : XK), Room k (A.deeper (envOfC qual scope s.heap.objs.size f cdv)) → sp vs H Q E →
   ∃ t, PSs (cxOf CX P w K mg base N qual scope f cdv A outer s H E) body t ∧ t { nx := fun _ H' => Q .non H', rt := Q } (start N vs) H) :
  FnOk P w K mg base CX (k + 1) f (PySem.W.fnOf name qual params body scope dV kV doc pm an cdv ct) ps sp := by
 refine ⟨len, fun A outer s H args us vs Q E hr e0 hb r hsp => ?_⟩
 have hl := len _ _ _ _ hsp
 have KX : K.In s.heap := e0.mod.kin.keeps fun b o e => (e0.bs b o e).1
 have lim : s.heap.NoLimit := e0.mod.nolimit.keeps fun b o e => (e0.bs b o e).1
 have hkind : ∀ y ∈ ps.zip us, scope.names.lookup y.1 = some .local ∨ (scope.names.lookup y.1 = some .cell ∧ ((cellsFrom (s.heap.objs.size + 1) scope.names []).lookup y.1).isSome = true) := fun ⟨n, v⟩ hy => by
  rcases S.par n (List.of_mem_zip hy).1 with q | q
  ·exact .inl q
  ·exact .inr ⟨q, PySem.W.cellsFrom_some _ _ _ (.inl q)⟩
 refine codeAny_call_function hr.depth (KX _ _ lk) rfl S.co S.gen rfl (PySem.W.codeRec_of KX hcd) (hb _ _ _ _ ?_)
 refine wpAny_newFunctionEnv_cells S.kind hkind fun env he s1 x => ?_
 subst he
 refine ⟨lim.keeps x.toInCall.keep, codeAny_func ?_⟩
 obtain ⟨t, ht, hq⟩ := hbody A outer s H vs Q E (hr.deeper _) hsp
 have I : Inv (cxOf CX P w K mg base N qual scope f cdv A outer s H E) [] (start N vs) H s1 := inv_start S hr.hd e0 hl r x
 refine wpAny_mono (ht [] s1 (start N vs) H _ I hq) (fun fl s' hs => ?_) fun e s' hs => hs
 have fin : ∀ {σ' : St} {H' : Hp} {v : V} {u : Value}, Inv (cxOf CX P w K mg base N qual scope f cdv A outer s H E) [] σ' H' s' → RelV v u → Q v H' → CE outer P w H s Q u s' :=
  fun {σ' H' v u} J rv q => ⟨v, H', J.os, J.bare, J.base, J.hok, rv, q⟩
 cases fl with
 | ret u =>
  obtain ⟨v, σ', H', J, rv, q⟩ := hs
  exact fin J rv q
 | next =>
  obtain ⟨σ', H', J, q⟩ := hs
  exact fin (v := V.non) (u := Value.none) J rfl q
 | brk =>
  obtain ⟨_, _, _, q⟩ := hs
  exact False.elim q
 | cont =>
  obtain ⟨_, _, _, q⟩ := hs
  exact False.elim q
end L2
namespace L2
open PySem PySem.Spec PyProof.Rows
section
variable {X : Cx} {x : Str} {p pos : Pos} {e : Expr} {es : List Expr} {t : TA} {id T : String} {r : List V → Hp → VK → Prop}
def tCB (r : List V → Hp → VK → Prop) (t : TA) : TE := fun σ H Q => t σ H fun vs H1 => r vs H1 Q
theorem pe_callB (hc : CallR X (.builtin id) r) (hg : Gl X x) (hm : X.mg x = none) (hv : bootBuiltins x = some (.builtin id)) (ha : PA X (e :: es) t) (hn : x ≠ "__name__" := by decide) (hdb : (x == ("__debug__" : Str)) = false := by decide)
  (he : starEach (e :: es) X.env = (false, eval e X.env) :: starEach es X.env := by rfl) (hpl : (backTo pos (starEach es X.env)).any (·.1) = false := by rfl) : PE X (.Call (.Name x p) (e :: es) [] pos) (tCB r t) := by
 intro pins s σ H Q I h
 refine wpAny_Call_Name_kw (ld_blt I hg hm hv ?_ hn hdb)
 exact PyProof.Rows.callWith_builtin1 (thn (ha pos pins s σ H _ I h) fun us s1 ⟨vs, H1, I1, r1, q1⟩ => hc pins s1 σ H1 vs us Q I1 r1 q1) he hpl
theorem pe_callTy (hc : CallR X (.type T) r) (hg : Gl X x) (hm : X.mg x = none) (hv : bootBuiltins x = some (.type T)) (ha : PA X (e :: es) t) (hn : x ≠ "__name__" := by decide) (hdb : (x == ("__debug__" : Str)) = false := by decide)
  (he : starEach (e :: es) X.env = (false, eval e X.env) :: starEach es X.env := by rfl) (hpl : (backTo pos (starEach es X.env)).any (·.1) = false := by rfl) : PE X (.Call (.Name x p) (e :: es) [] pos) (tCB r t) := by
 intro pins s σ H Q I h
 refine wpAny_Call_Name_kw (ld_blt I hg hm hv ?_ hn hdb)
 exact PyProof.Rows.callWith_type1 (thn (ha pos pins s σ H _ I h) fun us s1 ⟨vs, H1, I1, r1, q1⟩ => hc pins s1 σ H1 vs us Q I1 r1 q1) he hpl
end
end L2
namespace HT
open PySem PyProof.Rows
section
open PySem.SeqAt
open PySem.AutoSeq1 (wpAny_loadPart')
open PySem.MeetsSeq PySem.MeetsSeq2 PySem.MeetsSeq3
end
section
variable {prog : Program} {w : World} {A : Around} {E : Value → Shared → Prop} {s : Shared}
def sIx (n d : Nat) : Option Int → Nat
 | none => d
 | some v => if v < 0 then (v + (n : Int)).toNat else min v.toNat n
end
end HT
namespace L2
open PySem PySem.Spec PyProof.Rows
abbrev TO := St → Hp → (Option Int → Hp → Prop) → Prop
def PO (X : Cx) (e : Option Expr) (t : TO) : Prop :=
 ∀ (pins : List (Addr × Obj)) (s : Shared) (σ : St) (H : Hp) (Q : Option Int → Hp → Prop), Inv X pins σ H s → t σ H Q →
  wpAny (model X.prog X.w) X.A (evalPart e X.env) (fun u s' => ∃ o H', Inv X pins σ H' s' ∧ IsPart u o ∧ Q o H') X.xe s
def tNoPart : TO := fun _ H Q => Q none H
def tPart (t : TE) : TO := fun σ H Q => t σ H fun x H1 => ∃ i, x = .int i ∧ Q (some i) H1
section
variable {X : Cx} {e : Expr} {te : TE} {lo hi : Option Expr} {tl th : TO} {pos p2 : Pos}
theorem po_none : PO X none tNoPart := by
 intro pins s σ H Q I h
 rw [evalPart_none]
 exact wpAny_pure ⟨none, H, I, .none, h⟩
theorem po_some (h : PE X e te) : PO X (some e) (tPart te) := by
 intro pins s σ H Q I hw
 rw [evalPart_some]
 refine thn (h pins s σ H _ I hw) fun u s1 ⟨x, H1, I1, r1, q1⟩ => ?_
 obtain ⟨i, rfl, q⟩ := q1
 obtain ⟨t, rfl⟩ := r1
 exact ⟨some i, H1, I1, .int i t, q⟩
def SlR (X : Cx) (r : V → Option Int → Option Int → Hp → VK → Prop) : Prop :=
 ∀ (pins : List (Addr × Obj)) (s : Shared) (σ : St) (H : Hp) (x : V) (v vl vu : Value) (lo hi : Option Int) (sl : Addr) (Q : VK), Inv X pins σ H s → RelV x v → s.heap.IsSliceOf sl vl vu .none → IsPart vl lo → IsPart vu hi → r x lo hi H Q →
  ∃ T id, typeLookup (.type T) "__getitem__" = pure (some (.builtin id)) ∧ s.TypeIs v T ∧ wpAny (model X.prog X.w) X.A (getItem v (.ref sl)) (EP X pins σ Q) X.xe s
def tSl (r : V → Option Int → Option Int → Hp → VK → Prop) (te : TE) (tl th : TO) : TE := fun σ H Q => te σ H fun x H1 => tl σ H1 fun l H2 => th σ H2 fun u H3 => r x l u H3 Q
theorem pe_slice {r : V → Option Int → Option Int → Hp → VK → Prop} (hr : SlR X r) (he : PE X e te) (hl : PO X lo tl) (hu : PO X hi th) : PE X (.Subscript e (.Slice lo hi none p2) pos) (tSl r te tl th) := by
 intro pins s σ H Q I h
 refine Subscript_ (thn (he pins s σ H _ I h) fun v s1 ⟨x, H1, I1, r1, q1⟩ => ?_)
 refine wpAny_Slice (thn (hl pins s1 σ H1 _ I1 q1) fun vl s2 ⟨l, H2, I2, pl, q2⟩ => thn (hu pins s2 σ H2 _ I2 q2) fun vu s3 ⟨u, H3, I3, pu, q3⟩ => ?_)
 rw [evalPart_none]
 refine wpAny_pure ?_
 have I4 : Inv X pins σ H3 { s3 with heap := s3.heap.push { cls := .type "slice", data := .fields #[vl, vu, .none] } } := I3.kept (t' := s3.toks) fun b ob q => Heap.get?_push_of_some _ q
 obtain ⟨T, id, hT, ht, hg⟩ := hr pins { s3 with heap := s3.heap.push { cls := .type "slice", data := .fields #[vl, vu, .none] } } σ H3 x v vl vu l u s3.heap.objs.size Q I4 r1 (Heap.IsSliceOf.new ..) pl pu q3
 show wpAny (model X.prog X.w) X.A (subscriptTail e (.Slice lo hi none p2) v (.ref s3.heap.objs.size)) (EP X pins σ Q) X.xe { s3 with heap := s3.heap.push { cls := .type "slice", data := .fields #[vl, vu, .none] } }
 exact tail_any (ops := [.ref s3.heap.objs.size, v]) ht hT hg (by with_unfolding_all rfl)
def cutV (xs : List V) (lo hi : Option Int) : List V := (xs.drop (HT.sIx xs.length 0 lo)).take (HT.sIx xs.length xs.length hi - HT.sIx xs.length 0 lo)
theorem cutV_length (xs : List V) (lo hi : Option Int) : (cutV xs lo hi).length ≤ xs.length := by
 unfold cutV
 rw [List.length_take, List.length_drop]
 omega
end
end L2
namespace L2
open PySem PySem.Spec PyProof.Rows
def ixN (n : Nat) (i : Int) : Option Nat := if 0 ≤ i then (if i < n then some i.toNat else none) else if -(n : Int) ≤ i then some (i + n).toNat else none
def atI {α : Type} (xs : List α) (i : Int) : Option α := (ixN xs.length i).bind fun j => xs[j]?
theorem ixN_seq {n : Nat} {i : Int} {j : Nat} (h : ixN n i = some j) : seqIndex? i n = some j ∧ j < n ∧ -(n : Int) ≤ i ∧ i < n := by
 unfold ixN at h
 by_cases h0 : 0 ≤ i
 ·rw [if_pos h0] at h
  by_cases h1 : i < n
  ·rw [if_pos h1] at h
   have e : i.toNat = j := Option.some.inj h
   exact ⟨by rw [seqIndex_of h0 h1, e], by omega, by omega, h1⟩
  ·rw [if_neg h1] at h; cases h
 ·rw [if_neg h0] at h
  by_cases h1 : -(n : Int) ≤ i
  ·rw [if_pos h1] at h
   have e : (i + n).toNat = j := Option.some.inj h
   exact ⟨by rw [seqIndex_neg (by omega) h1, e], by omega, h1, by omega⟩
  ·rw [if_neg h1] at h; cases h
theorem atI_get {α : Type} {xs : List α} {i : Int} {v : α} (h : atI xs i = some v) : ∃ j, seqIndex? i xs.length = some j ∧ xs[j]? = some v ∧ j < xs.length ∧ -(xs.length : Int) ≤ i ∧ i < xs.length := by
 unfold atI at h
 cases e : ixN xs.length i with
 | none => rw [e] at h; cases h
 | some j =>
  rw [e] at h
  obtain ⟨h1, h2, h3, h4⟩ := ixN_seq e
  exact ⟨j, h1, h, h2, h3, h4⟩
theorem atI_nat {α : Type} {xs : List α} {j : Nat} {v : α} (h : xs[j]? = some v) : atI xs (j : Int) = some v := by
 have hj : j < xs.length := (List.getElem?_eq_some_iff.mp h).1
 have e : ixN xs.length (j : Int) = some j := by
  unfold ixN
  rw [if_pos (by omega), if_pos (by omega)]; simp
 unfold atI; rw [e]; exact h
def PlainIx (b : Expr) : Prop := ∀ o i, subscripted b false o i = operate [o, i] (getItem o i)
def IxR (X : Cx) (r : R2) : Prop :=
 ∀ (value slice : Expr) (pins : List (Addr × Obj)) (s : Shared) (σ : St) (H : Hp) (x y : V) (v u : Value) (Q : VK), Inv X pins σ H s → RelV x v → RelV y u → r x y H Q →
  subscripted slice false v u = operate [v, u] (getItem v u) → wpAny (model X.prog X.w) X.A (subscriptTail value slice v u) (EP X pins σ Q) X.xe s
def MtR (X : Cx) (id : String) (r : V → List V → Hp → VK → Prop) : Prop :=
 ∀ (pins : List (Addr × Obj)) (s : Shared) (σ : St) (H : Hp) (x : V) (xs : List V) (v : Value) (us : List Value) (Q : VK), Inv X pins σ H s → RelV x v → Vals xs us → r x xs H Q →
  wpAny (model X.prog X.w) X.A (call (.builtin id) (v :: us)) (EP X pins σ Q) X.xe s
section
variable {X : Cx} {a b : Expr} {ta tb : TE} {pos : Pos}
theorem IxR.or {r r' : R2} (h : IxR X r) (h' : IxR X r') : IxR X (fun x y H Q => r x y H Q ∨ r' x y H Q) := by
 intro value slice pins s σ H x y v u Q I rx ry q hs
 rcases q with q | q
 ·exact h value slice pins s σ H x y v u Q I rx ry q hs
 ·exact h' value slice pins s σ H x y v u Q I rx ry q hs
theorem pe_ix {r : R2} (hr : IxR X r) (ha : PE X a ta) (hb : PE X b tb) (hs : PlainIx b) : PE X (.Subscript a b pos) (tOp r ta tb) := by
 intro pins s σ H Q I h
 exact Subscript_ (binT ha hb I h fun v u s2 x y H2 I2 rx ry q => hr a b pins s2 σ H2 x y v u Q I2 rx ry q (hs _ _))
def rIxL (K : PySem.W.Frag) : R2 := fun x y H Q => ∃ p xs i v, x = .ref p ∧ y = .int i ∧ SqL K H p xs ∧ atI xs i = some v ∧ Q v H
def rIxT (K : PySem.W.Frag) : R2 := fun x y H Q => ∃ p xs i v, x = .ref p ∧ y = .int i ∧ SqT K H p xs ∧ atI xs i = some v ∧ Q v H
def rIxS : R2 := fun x y H Q => ∃ z i c, x = .str z ∧ y = .int i ∧ z.length ≤ sizeLine ∧ atI z.cps.toList i = some c ∧ Q (.str ⟨#[c]⟩) H
theorem ix_list : IxR X (rIxL X.K) := by
 intro value slice pins s σ H x y v u Q I rx ry h hs
 obtain ⟨p, xs, i, z, rfl, rfl, hq, he, q⟩ := h
 cases rx
 obtain ⟨t, rfl⟩ := ry
 obtain ⟨its, r, pl, hz⟩ := I.list hq
 obtain ⟨j, h1, h2, h3, h4, h5⟩ := atI_get he
 obtain ⟨w, ew, rw'⟩ := r.get h2
 have hl := r.length
 have hn := line63
 have fin : EP X pins σ Q w s := ⟨z, H, I, rw', q⟩
 by_cases h0 : 0 ≤ i
 ·have hj : i.toNat = j := by
   rw [seqIndex_of h0 h5] at h1
   exact Option.some.inj h1
  exact item_listR pl.isList h0 (by omega) (by rw [hj]; simpa using ew) fin hs
 ·have hj : (i + (its.toArray.size : Int)).toNat = j := by
   rw [seqIndex_neg (by omega) h4] at h1
   rw [List.size_toArray, ← hl]
   exact Option.some.inj h1
  exact subscriptTail_builtinR (x := w) pl.isList.typeIs slot_list_getitem.lookup
   (wpAny_getItem_list_neg (Q := fun r s' => r = w ∧ EP X pins σ Q r s') pl.isList (by omega) (by rw [List.size_toArray] <;> omega) (by omega) (by rw [hj]; simpa using ew) ⟨rfl, fin⟩) hs
theorem ix_tup : IxR X (rIxT X.K) := by
 intro value slice pins s σ H x y v u Q I rx ry h hs
 obtain ⟨p, xs, i, z, rfl, rfl, hq, he, q⟩ := h
 cases rx
 obtain ⟨t, rfl⟩ := ry
 obtain ⟨its, r, pl, hz⟩ := I.tuple hq
 obtain ⟨j, h1, h2, h3, h4, h5⟩ := atI_get he
 obtain ⟨w, ew, rw'⟩ := r.get h2
 have hl := r.length
 have hn := line63
 have fin : EP X pins σ Q w s := ⟨z, H, I, rw', q⟩
 exact subscriptTail_builtinR (x := w) pl.typeIs slot_tuple_getitem.lookup
  (getItem_tuple (j := j) (Q := fun r s' => r = w ∧ EP X pins σ Q r s') pl (by omega) (by omega) (by rw [List.size_toArray, ← hl]; exact h1) (by simpa using ew) ⟨rfl, fin⟩) hs
theorem ix_str : IxR X rIxS := by
 intro value slice pins s σ H x y v u Q I rx ry h hs
 obtain ⟨z, i, c, rfl, rfl, hz, he, q⟩ := h
 obtain ⟨t, rfl⟩ := rx
 obtain ⟨t', rfl⟩ := ry
 obtain ⟨j, h1, h2, h3, h4, h5⟩ := atI_get he
 have hl : z.cps.toList.length = z.length := by simp [Str.length]
 rw [hl] at h1 h4 h5
 have hn := line63
 exact tail_any (typeIs_str s z t) slot_str_getitem.lookup (getItem_str (c := c) (by
  have e1 : decide (i < -(2 ^ 63 : Int)) = false := decide_eq_false (by omega)
  have e2 : decide (i ≥ 2 ^ 63) = false := decide_eq_false (by omega)
  rw [e1, e2, Bool.or_false]) (by rw [h1]; simpa using h2) ⟨.str ⟨#[c]⟩, H, I.tok _, ⟨_, rfl⟩, q⟩) hs
def rIx (K : PySem.W.Frag) : R2 := fun x y H Q => rIxL K x y H Q ∨ rIxT K x y H Q ∨ rIxS x y H Q
theorem ix_seq : IxR X (rIx X.K) := ix_list.or (ix_tup.or ix_str)
theorem mapSeq_set (its : List Value) (n j : Nat) (u : Value) : Obj.mapSeq (·.setIfInBounds j u) { cls := .type "list", data := .seq its.toArray n } = { cls := .type "list", data := .seq (its.set j u).toArray n } := by
 simp [Obj.mapSeq]
theorem Inv.lst {pins : List (Addr × Obj)} {σ : St} {H : Hp} {s : Shared} {p : Addr} {xs : List V} (I : Inv X pins σ H s) (h : H p = some (.lst xs)) :
  ∃ (its : List Value) (n : Nat), Vals xs its ∧ s.heap.get? p = some { cls := .type "list", data := .seq its.toArray n } ∧ xs.length ≤ sizeLine := by
 obtain ⟨z, its, n, r, e⟩ := I.hok p _ h
 exact ⟨its, n, r, e, z⟩
theorem Inv.lstUpd {pins : List (Addr × Obj)} {σ : St} {H : Hp} {s : Shared} {p : Addr} {xs ys : List V} {its its' : List Value} {n n' : Nat} {f : Obj → Obj} (I : Inv X pins σ H s) (h : H p = some (.lst xs))
  (ho : s.heap.get? p = some { cls := .type "list", data := .seq its.toArray n }) (hf : f { cls := .type "list", data := .seq its.toArray n } = { cls := .type "list", data := .seq its'.toArray n' }) (r : Vals ys its') (hz : ys.length ≤ sizeLine) (t : Nat) :
  Inv X pins σ (upd H p (.lst ys)) { s with heap := s.heap.update p f, toks := t } := by
 have e : (s.heap.update p f).get? p = some { cls := .type "list", data := .seq its'.toArray n' } := by
  rw [Heap.get?_update_self f ho (by rw [hf] <;> rfl), hf]
 refine I.write (x := p) (e := p) (by rw [h]; trivial) (.inl rfl) (fun b u hb q => (Heap.get?_update_other _ _ (Ne.symm hb)).trans q) ⟨_, e⟩ ?_
 exact ⟨hz, its', n', r, e⟩
def rSetL : V → V → V → Hp → (Hp → Prop) → Prop := fun o i v H Q => ∃ p xs k j, o = .ref p ∧ i = .int k ∧ H p = some (.lst xs) ∧ ixN xs.length k = some j ∧ Q (upd H p (.lst (xs.set j v)))
theorem set_list : PSet X rSetL := by
 intro pins s σ H o i v ov iv u Q I ro ri rv h
 obtain ⟨p, xs, k, j, rfl, rfl, hp, hj, q⟩ := h
 cases ro
 obtain ⟨t, rfl⟩ := ri
 obtain ⟨its, n, r, ho, hz⟩ := I.lst hp
 obtain ⟨h1, h2, h3, h4⟩ := ixN_seq hj
 have hl := r.length
 have hn := line63
 have I' : Inv X pins σ (upd H p (.lst (xs.set j v))) { s with heap := s.heap.update p (Obj.mapSeq (·.setIfInBounds j u)) } :=
  I.lstUpd hp ho (mapSeq_set its n j u) (r.set rv j) (by rw [List.length_set]; exact hz) s.toks
 by_cases h0 : 0 ≤ k
 ·have hk : k.toNat = j := by
   rw [seqIndex_of h0 h4] at h1
   exact Option.some.inj h1
  exact PySem.W.ki_setAt ho h0 (by omega) (by rw [List.size_toArray, ← hl]; exact h4) (by rw [hk]; exact ⟨_, I', q⟩)
 ·have hk : (k + (its.toArray.size : Int)).toNat = j := by
   rw [seqIndex_neg (by omega) h3] at h1
   rw [List.size_toArray, ← hl]
   exact Option.some.inj h1
  exact PySem.W.ki_setBack ho (by omega) (by rw [List.size_toArray, ← hl]; exact h3) (by omega) (by rw [hk]; exact ⟨_, I', q⟩)
theorem slice_bounds (lo hi : Option Int) (n : Nat) : (sliceBounds lo hi none n).1 = ((HT.sIx n 0 lo : Nat) : Int) ∧ (sliceBounds lo hi none n).2.1 = ((HT.sIx n n hi : Nat) : Int) ∧ (sliceBounds lo hi none n).2.2 = 1 := by
 refine ⟨?_, ?_, rfl⟩
 ·cases lo with
  | none => simp [sliceBounds, HT.sIx]
  | some i =>
   simp only [sliceBounds, HT.sIx, Option.getD_none, show (1 : Int) > 0 by decide, if_true]
   by_cases h : i < 0
   ·simp only [h, if_true] <;> omega
   ·simp only [h, if_false] <;> omega
 ·cases hi with
  | none => simp [sliceBounds, HT.sIx]
  | some i =>
   simp only [sliceBounds, HT.sIx, Option.getD_none, show (1 : Int) > 0 by decide, if_true]
   by_cases h : i < 0
   ·simp only [h, if_true] <;> omega
   ·simp only [h, if_false] <;> omega
theorem slicePick_cut (its : List Value) (lo hi : Option Int) : slicePick its.toArray lo hi none = ((its.drop (HT.sIx its.length 0 lo)).take (HT.sIx its.length its.length hi - HT.sIx its.length 0 lo)).toArray := by
 obtain ⟨h1, h2, h3⟩ := slice_bounds lo hi its.toArray.size
 unfold slicePick
 rw [h1, h2, h3]
 simp only [sliceRange_one, pick_run, List.size_toArray] <;> rfl
def rSlL (K : PySem.W.Frag) : V → Option Int → Option Int → Hp → VK → Prop := fun x lo hi H Q => ∃ a xs, x = .ref a ∧ SqL K H a xs ∧ ∀ p, H p = none → Q (.ref p) (upd H p (.lst (cutV xs lo hi)))
theorem sl_list : SlR X (rSlL X.K) := by
 intro pins s σ H x v vl vu lo hi sl Q I rx hs pl pu h
 obtain ⟨a, xs, rfl, hx, q⟩ := h
 cases rx
 obtain ⟨its, r, ht, hz⟩ := I.list hx
 have hlen := r.length
 refine ⟨"list", _, slot_list_getitem.lookup, ht.isList.typeIs, ?_⟩
 refine wpAny_getItem_list_slice ht.isList hs pl pu .none (by simp) ?_ (by rw [List.size_toArray] <;> omega)
 rw [slicePick_cut, ← hlen]
 refine ⟨.ref s.heap.objs.size, _, I.laid (t' := s.toks) (o := .lst (cutV xs lo hi)) (fun b ob q => Heap.get?_push_of_some _ q) (Nat.le_refl _) ?_, rfl, q _ (I.hok.fresh (Nat.le_refl _))⟩
 exact ⟨Nat.le_trans (cutV_length xs lo hi) hz, _, 0, (r.drop (HT.sIx xs.length 0 lo)).take (HT.sIx xs.length xs.length hi - HT.sIx xs.length 0 lo), Heap.get?_push_size _ rfl⟩
theorem call_list_of : CallR X (.type "list") (fun xs H Q => ∃ p ys, xs = [.ref p] ∧ (SqL X.K H p ys ∨ SqT X.K H p ys) ∧ ∀ l, H l = none → Q (.ref l) (upd H l (.lst ys))) := by
 intro pins s σ H xs us Q I r h
 obtain ⟨p, ys, rfl, hq, q⟩ := h
 obtain ⟨u, rfl, rx⟩ := vals1 r
 cases rx
 have fin : ∀ (its : List Value), Vals ys its → ys.length ≤ sizeLine → ∀ (h' : Heap) (c' : Nat), (∀ b o', s.heap.get? b = some o' → h'.get? b = some o') →
   h'.get? s.heap.objs.size = some { cls := .type "list", dict := none, data := .seq its.toArray c', slots := #[] } → EP X pins σ Q (.ref s.heap.objs.size) { s with heap := h' } := fun its r' hz h' c' kp e =>
  ⟨.ref s.heap.objs.size, _, I.laid (t' := s.toks) kp (Nat.le_refl _) (show ObjOk X.prog X.w _ h' _ (.lst ys) from ⟨hz, its, c', r', e⟩), rfl, q _ (I.hok.fresh (Nat.le_refl _))⟩
 rcases hq with hq | hq
 ·obtain ⟨its, r', pl, hz⟩ := I.list hq
  have hlen := r'.length
  obtain ⟨o, ho, hc, n, hd⟩ := pl.isList
  exact call_list_seq p (.inl rfl) ho hc hd (fun h' c' kp e => fin its r' hz h' c' kp e) (by simp only [List.size_toArray] <;> omega)
 ·obtain ⟨its, r', pl, hz⟩ := I.tuple hq
  have hlen := r'.length
  obtain ⟨o, ho, hc, n, hd⟩ := pl
  exact call_list_seq p (.inr rfl) ho hc hd (fun h' c' kp e => fin its r' hz h' c' kp e) (by simp only [List.size_toArray] <;> omega)
def tyV (K : PySem.W.Frag) (T : String) (x : V) (H : Hp) : Prop := match x with
 | .str _ => T = "str"
 | .int _ => T = "int"
 | .ref p => (T = "list" ∧ ∃ xs, SqL K H p xs) ∨ (T = "tuple" ∧ ∃ o, K.lookup p = some o ∧ o.cls = .type "tuple" ∧ o.dict = none) ∨
   (T = "dict" ∧ ((∃ kvs, H p = some (.dK kvs)) ∨ ∃ kvs, H p = some (.dT kvs))) ∨ (T = "set" ∧ ∃ S n, H p = some (.set S n))
 | _ => False
theorem tyV_is {pins : List (Addr × Obj)} {σ : St} {H : Hp} {s : Shared} {T : String} {x : V} {v : Value} (I : Inv X pins σ H s) (r : RelV x v) (ty : tyV X.K T x H) :
  s.TypeIs v T ∧ ∀ a, v = .ref a → ∃ ob, s.heap.get? a = some ob ∧ ob.dict = none := by
 cases x with
 | str z =>
  obtain ⟨t, rfl⟩ := r
  cases (show T = "str" from ty)
  exact ⟨typeIs_str s z t, fun _ e => nomatch e⟩
 | int i =>
  obtain ⟨t, rfl⟩ := r
  cases (show T = "int" from ty)
  exact ⟨typeIs_int s i t, fun _ e => nomatch e⟩
 | ref p =>
  cases r
  rcases ty with ⟨rfl, xs, hq⟩ | ⟨rfl, o, hk, hc, hd⟩ | ⟨rfl, hk⟩ | ⟨rfl, S, n, hk⟩
  ·obtain ⟨its, _, pl, _⟩ := I.list hq
   refine ⟨pl.isList.typeIs, fun a e => ?_⟩
   cases e
   obtain ⟨o, n, e, c, hd, _⟩ := pl
   exact ⟨o, e, hd⟩
  ·refine ⟨⟨o, I.kIn p o hk, hc⟩, fun a e => ?_⟩
   cases e
   exact ⟨o, I.kIn _ o hk, hd⟩
  ·have z : ∃ o, s.heap.get? p = some o ∧ o.ExactDict := by
    rcases hk with ⟨kvs, hk⟩ | ⟨kvs, hk⟩
    ·obtain ⟨_, _, _, _, o, _, _, e, ex, _⟩ := I.hok p _ hk
     exact ⟨o, e, ex⟩
    ·obtain ⟨_, _, _, _, o, _, _, e, ex, _⟩ := I.hok p _ hk
     exact ⟨o, e, ex⟩
   obtain ⟨o, e, ex⟩ := z
   refine ⟨⟨o, e, ex.1⟩, fun a e2 => ?_⟩
   cases e2
   exact ⟨o, e, ex.2.1⟩
  ·obtain ⟨o, _, _, _, e, ex, _⟩ := I.hok p _ hk
   refine ⟨⟨o, e, ex.1⟩, fun a e2 => ?_⟩
   cases e2
   exact ⟨o, e, ex.2.1⟩
 | _ => exact False.elim ty
def tBM (K : PySem.W.Frag) (T : String) (r : V → List V → Hp → VK → Prop) (to : TE) (t : TA) : TE := fun σ H Q => to σ H fun x H1 => tyV K T x H1 ∧ t σ H1 fun xs H2 => r x xs H2 Q
variable {o e : Expr} {es : List Expr} {to : TE} {t : TA} {name : Str} {apos cpos : Pos} {T id : String} {r : V → List V → Hp → VK → Prop}
theorem pe_bm (pa : PlainAttrs T) (slot : Slot T name id) (hty : typeOf (.builtin id) = pure (.type "method_descriptor")) (hm : MtR X id r) (ho : PE X o to) (ha : PA X (e :: es) t)
  (hbase : attributeBase o name X.env (eval o X.env) = eval o X.env := by rfl)
  (hfew : ((backTo cpos (starEach (e :: es) X.env)).all (fun x => !x.1) && (backToKw cpos (keywordEach [] X.env)).all (fun x => x.1.isSome)
   && decide ((e :: es).length + ([] : List Keyword).length + (if ([] : List Keyword).isEmpty then 0 else 1) < 30)) = true := by rfl)
  (hline : (apos.endLine == cpos.line) = true := by rfl) (hs : starEach (e :: es) X.env = (false, eval e X.env) :: starEach es X.env := by rfl) (hplain : (backTo cpos (starEach es X.env)).any (·.1) = false := by rfl) :
  PE X (.Call (.Attribute o name apos) (e :: es) [] cpos) (tBM X.K T r to t) := by
 intro pins s σ H Q I h
 refine wpAny_Call_method_late hbase hfew hline rfl (thn (ho pins s σ H _ I h) fun v s1 ⟨x, H1, I1, r1, ty, q1⟩ => ?_)
 obtain ⟨h1, h2⟩ := tyV_is I1 r1 ty
 refine ⟨T, id, pa, slot, hty, h1, h2, ?_⟩
 have hA := ha cpos pins s1 σ H1 _ I1 q1
 rw [hs] at hA ⊢
 refine Calls.callWith_builtin (by show (false || (backTo cpos (starEach es X.env)).any (·.1)) = false; rw [hplain] <;> rfl) (Calls.evalArgs_plain ?_)
 exact thn hA fun us s2 ⟨vs, H2, I2, r2, q2⟩ => hm pins s2 σ H2 x vs v us Q I2 r1 r2 q2
end
end L2
namespace L2
open PySem PySem.Spec PyProof.Rows
def MtM (X : Cx) (id : String) (r : V → List V → Hp → VK → Prop) : Prop :=
 ∀ (pins : List (Addr × Obj)) (s : Shared) (σ : St) (H : Hp) (x : V) (xs : List V) (v : Value) (us : List Value) (Q : VK), Inv X pins σ H s → RelV x v → Vals xs us → r x xs H Q →
  wpAny (model X.prog X.w) X.A (call (.builtin id) (v :: us)) (EP X pins σ Q) X.xe s
theorem Vals.one : ∀ {x : V} {us : List Value}, Vals [x] us → ∃ u, us = [u] ∧ RelV x u
 | _, _, .cons r .nil => ⟨_, rfl, r⟩
theorem Vals.two : ∀ {x y : V} {us : List Value}, Vals [x, y] us → ∃ u v, us = [u, v] ∧ RelV x u ∧ RelV y v
 | _, _, _, .cons r (.cons q .nil) => ⟨_, _, rfl, r, q⟩
theorem Vals.eraseIdx : ∀ {xs : List V} {us : List Value} (i : Nat), Vals xs us → Vals (xs.eraseIdx i) (us.eraseIdx i)
 | _, _, _, .nil => .nil
 | _, _, 0, .cons _ t => t
 | _, _, i + 1, .cons r t => .cons r (Vals.eraseIdx i t)
theorem Vals.rep {xs : List V} {us : List Value} (h : Vals xs us) : ∀ k : Nat, Vals (List.replicate k xs).flatten (List.replicate k us).flatten
 | 0 => .nil
 | k + 1 => by
  rw [List.replicate_succ, List.replicate_succ, List.flatten_cons, List.flatten_cons]
  exact Vals.append h (Vals.rep h k)
theorem len_erase {α : Type} : ∀ (l : List α) (i : Nat), (l.eraseIdx i).length ≤ l.length
 | [], _ => Nat.le_refl _
 | _ :: _, 0 => Nat.le_succ _
 | _ :: r, i + 1 => Nat.succ_le_succ (len_erase r i)
theorem foldl_rep (its : List Value) : ∀ (k : Nat) (acc : List Value),
  List.foldl (fun x1 x2 => x1 ++ x2) acc.toArray (List.replicate k its.toArray) = (acc ++ (List.replicate k its).flatten).toArray
 | 0, acc => by simp
 | k + 1, acc => by
  have e : acc.toArray ++ its.toArray = (acc ++ its).toArray := by simp
  have e2 : (acc ++ its) ++ (List.replicate k its).flatten = acc ++ (List.replicate (k + 1) its).flatten := by
   rw [List.replicate_succ, List.flatten_cons, List.append_assoc]
  rw [← e2, ← foldl_rep its k (acc ++ its), ← e, List.replicate_succ, List.foldl_cons]
section
variable {X : Cx} {pins : List (Addr × Obj)} {σ : St} {H : Hp} {s : Shared} {l b : Addr} {xs ys zs : List V}
theorem Inv.lset {its its' : List Value} {n : Nat} {f : Array Value → Array Value} {t' : Nat} (I : Inv X pins σ H s) (hH : H l = some (.lst xs))
  (e : s.heap.get? l = some { cls := .type "list", data := .seq its.toArray n }) (hf : f its.toArray = its'.toArray) (hv : Vals ys its') (hz : ys.length ≤ sizeLine) :
  Inv X pins σ (upd H l (.lst ys)) { s with heap := s.heap.update l (Obj.mapSeq f), toks := t' } := by
 have q := PySem.IsL.update e f
 rw [hf] at q
 refine I.write (x := l) (e := l) (by rw [hH]; exact trivial) (.inl rfl) (fun b' u hb hu => (Heap.get?_update_other s.heap (Obj.mapSeq f) (Ne.symm hb)).trans hu) ⟨_, q⟩ ?_
 exact ⟨hz, its', _, hv, q⟩
theorem Inv.lnew {its : List Value} {t' : Nat} (I : Inv X pins σ H s) (hv : Vals ys its) (hz : ys.length ≤ sizeLine) :
  Inv X pins σ (upd H s.heap.objs.size (.lst ys)) { s with heap := s.heap.push { cls := .type "list", data := .seq its.toArray }, toks := t' } :=
 I.laid (fun _ _ q => Heap.get?_push_of_some _ q) (Nat.le_refl _) ⟨hz, its, 0, hv, Heap.get?_push_size _ rfl⟩
theorem Inv.fresh (I : Inv X pins σ H s) : H s.heap.objs.size = none := I.hok.fresh (Nat.le_refl _)
theorem Inv.lstM (I : Inv X pins σ H s) (hH : H l = some (.lst xs)) : xs.length ≤ sizeLine ∧ ∃ (its : List Value) (n : Nat), Vals xs its ∧ xs.length = its.length ∧ s.heap.get? l = some { cls := .type "list", data := .seq its.toArray n } := by
 obtain ⟨z, its, n, r, e⟩ := I.hok l _ hH
 exact ⟨z, its, n, r, r.length, e⟩
theorem notLongL {n : Nat} (h : n ≤ sizeLine) : Builtin.List.listTooLong n = false := by
 unfold Builtin.List.listTooLong
 exact decide_eq_false (by omega)
end
section
variable {X : Cx}
def rAppend : V → List V → Hp → VK → Prop := fun x vs H Q => ∃ l xs y, x = .ref l ∧ vs = [y] ∧ H l = some (.lst xs) ∧ xs.length < sizeLine ∧ Q .non (upd H l (.lst (xs ++ [y])))
theorem mt_append : MtM X "list.append" rAppend := by
 intro pins s σ H x vs v us Q I rx rv h
 obtain ⟨l, xs, y, rfl, rfl, hH, hz, q⟩ := h
 cases rx
 obtain ⟨u, rfl, ru⟩ := rv.one
 obtain ⟨z, its, n, r, hl, e⟩ := I.lstM hH
 refine call_meets F.slot_list_append ⟨_, e, rfl⟩ F.entry_list_append (F.args_list_append_2 _ _) (PySem.list_append l its.toArray n u (by rw [List.size_toArray]; omega)) ⟨e, ?_⟩
 refine ⟨.non, _, I.lset (its' := its ++ [u]) hH e (by simp) (r.append (.cons ru .nil)) ?_, rfl, q⟩
 rw [List.length_append, List.length_singleton]
 omega
def rExtend : V → List V → Hp → VK → Prop := fun x vs H Q => ∃ l b xs zs, x = .ref l ∧ vs = [.ref b] ∧ H l = some (.lst xs) ∧ H b = some (.lst zs) ∧ xs.length + zs.length ≤ sizeLine ∧ Q .non (upd H l (.lst (xs ++ zs)))
theorem mt_extend : MtM X "list.extend" rExtend := by
 intro pins s σ H x vs v us Q I rx rv h
 obtain ⟨l, b, xs, zs, rfl, rfl, hH, hB, hz, q⟩ := h
 cases rx
 obtain ⟨u, rfl, ru⟩ := rv.one
 cases ru
 obtain ⟨z, its, n, r, hl, e⟩ := I.lstM hH
 obtain ⟨z2, its2, n2, r2, hl2, e2⟩ := I.lstM hB
 have hsz : its.toArray.size + its2.toArray.size ≤ sizeLine := by rw [List.size_toArray, List.size_toArray]; omega
 have hlong : ¬ (!its.toArray.isEmpty && Builtin.List.listTooLong (its.toArray.size + its2.toArray.size)) = true := by
  rw [notLongL hsz, Bool.and_false]
  exact Bool.false_ne_true
 refine call_meets F.slot_list_extend ⟨_, e, rfl⟩ F.entry_list_extend (F.args_list_extend_2 _ _)
  (AutoSeq1.list_extend_list_list_0 l its.toArray n b its2.toArray n2 hlong (by rw [List.size_toArray]; omega) (by omega)) ⟨e, e2, ?_⟩
 refine ⟨.non, _, I.lset (its' := its ++ its2) hH e (by simp) (r.append r2) ?_, rfl, q⟩
 rw [List.length_append]
 omega
def rPopAt : V → List V → Hp → VK → Prop := fun x vs H Q => ∃ l xs i k y, x = .ref l ∧ vs = [.int i] ∧ H l = some (.lst xs) ∧ -(2 ^ 63) ≤ i ∧ i < 2 ^ 63 ∧ seqIndex? i xs.length = some k ∧ xs[k]? = some y ∧ Q y (upd H l (.lst (xs.eraseIdx k)))
theorem mt_popAt : MtM X "list.pop" rPopAt := by
 intro pins s σ H x vs v us Q I rx rv h
 obtain ⟨l, xs, i, k, y, rfl, rfl, hH, h1, h2, hk, hy, q⟩ := h
 cases rx
 obtain ⟨u, rfl, ru⟩ := rv.one
 obtain ⟨t, rfl⟩ := ru
 obtain ⟨z, its, n, r, hl, e⟩ := I.lstM hH
 obtain ⟨w, hw, rw'⟩ := r.get hy
 refine call_meets F.slot_list_pop ⟨_, e, rfl⟩ F.entry_list_pop (F.args_list_pop_2 _ _)
  (MeetsSeq.list_pop_at l its.toArray n i t k w (fitsIndex_both h1 h2) (by rw [List.size_toArray, ← hl]; exact hk) (by rw [← Array.getElem?_toList]; exact hw) (by rw [List.size_toArray]; omega)) ⟨e, ?_⟩
 refine ⟨y, _, I.lset (its' := its.eraseIdx k) hH e ?_ (r.eraseIdx k) ?_, rw', q⟩
 ·show its.toArray.eraseIdxIfInBounds k = (its.eraseIdx k).toArray
  rw [List.eraseIdxIfInBounds_toArray]
 ·have := len_erase xs k
  omega
def rCat : R2 := fun x y H Q => ∃ l b xs zs, x = .ref l ∧ y = .ref b ∧ H l = some (.lst xs) ∧ H b = some (.lst zs) ∧ xs.length + zs.length ≤ sizeLine ∧ ∀ p, H p = none → Q (.ref p) (upd H p (.lst (xs ++ zs)))
theorem op_cat : OpR X (binaryOp .Add) rCat := by
 intro pins s σ H x y v u Q I rx ry h
 obtain ⟨l, b, xs, zs, rfl, rfl, hH, hB, hz, q⟩ := h
 cases rx
 cases ry
 obtain ⟨z, its, n, r, hl, e⟩ := I.lstM hH
 obtain ⟨z2, its2, n2, r2, hl2, e2⟩ := I.lstM hB
 refine PySem.P.add_list e e2 ?_ (by rw [List.size_toArray, List.size_toArray]; omega)
 have ea : its.toArray ++ its2.toArray = (its ++ its2).toArray := by simp
 rw [ea]
 exact ⟨.ref _, _, I.lnew (t' := s.toks) (r.append r2) (by rw [List.length_append]; omega), rfl, q _ I.fresh⟩
def rRep : R2 := fun x y H Q => ∃ l k xs, x = .ref l ∧ y = .int k ∧ H l = some (.lst xs) ∧ -(2 ^ 63) ≤ k ∧ k < 2 ^ 63 ∧ xs.length * k.toNat ≤ sizeLine ∧
 ∀ p, H p = none → Q (.ref p) (upd H p (.lst (List.replicate k.toNat xs).flatten))
theorem len_rep {α : Type} (xs : List α) (k : Nat) : (List.replicate k xs).flatten.length = k * xs.length := by
 induction k with
 | zero => simp
 | succ k ih => rw [List.replicate_succ, List.flatten_cons, List.length_append, ih, Nat.succ_mul, Nat.add_comm]
theorem op_rep : OpR X (binaryOp .Mult) rRep := by
 intro pins s σ H x y v u Q I rx ry h
 obtain ⟨l, k, xs, rfl, rfl, hH, h1, h2, hz, q⟩ := h
 cases rx
 obtain ⟨t, rfl⟩ := ry
 obtain ⟨z, its, n, r, hl, e⟩ := I.lstM hH
 have hlen : its.toArray.size * k.toNat ≤ sizeLine := by rw [List.size_toArray, ← hl]; exact hz
 have hcap : ¬ its.toArray.size * k.toNat > (2 ^ 63 - 1) / 8 := by
  have : (sizeLine : Nat) ≤ (2 ^ 63 - 1) / 8 := by decide
  omega
 have hfit : ¬ (!Builtin.List.listFitsIndex k) = true := by
  rw [fitsIndex_both h1 h2]
  exact Bool.false_ne_true
 have hlong : ¬ Builtin.List.listTooLong (its.toArray.size * k.toNat) = true := by
  rw [notLongL hlen]
  exact Bool.false_ne_true
 have hnew : List.foldl (fun x1 x2 => x1 ++ x2) #[] (List.replicate (if its.toArray.isEmpty = true then 0 else k.toNat) its.toArray) = (List.replicate k.toNat its).flatten.toArray := by
  have f0 : ∀ m : Nat, List.foldl (fun x1 x2 => x1 ++ x2) #[] (List.replicate m its.toArray) = (List.replicate m its).flatten.toArray := fun m => by
   have := foldl_rep its m []
   rw [List.nil_append] at this
   exact this
  rw [f0]
  cases its with
  | nil => simp
  | cons a r' => rw [if_neg (by simp)]
 refine wpAny_binaryOp_repeat_ref (T := "list") (U := "int") (by decide) ⟨_, e, rfl⟩ (fun s' => typeIs_int s' k t) noFill_list_mul F.fills_int_mul F.slot_int_rmul repeat_list F.slot_int_index.lookup
  (call_meets F.slot_int_rmul (typeIs_int s k t) F.entry_int_rmul (F.args_int_rmul_2 _ _) (int___rmul___int_list k t l its.toArray n)
   ⟨e, rfl, ⟨_, e, rfl⟩, call_meets F.slot_list_mul ⟨_, e, rfl⟩ F.entry_list_mul (F.args_list_mul_2 _ _) (AutoListH.list___mul___list_int_3 l its.toArray n k t hfit hcap hlong) ⟨e, ?_⟩⟩)
 rw [hnew]
 exact ⟨.ref _, _, I.lnew (t' := s.toks) (r.rep k.toNat) (by rw [len_rep, Nat.mul_comm]; exact hz), rfl, q _ I.fresh⟩
end
section
variable {prog : Program} {w : World} {A : Around} {E : Value → Shared → Prop} {s : Shared}
end
section
variable {X : Cx}
end
end L2
namespace Att
open PySem PySem.W PySem.Calls PyProof.Rows
theorem ints_of_wellAll {P : Params} {h : Heap} : ∀ (ns : List Int) (vs : List Value), WellAll P h vs (ns.map WData.int) → IntsAre vs ns := by
 intro ns
 induction ns with
 | nil =>
  intro vs w
  rw [List.map_nil] at w
  cases w
  exact .nil
 | cons n ns ih =>
  intro vs w
  rw [List.map_cons] at w
  cases w with
  | cons a b =>
   cases a
   exact .cons _ _ (ih _ b)
theorem script_of {l : OpenLaw} {n : Nat} (hn : l.most = some n) {P : Params} {h : Heap} {args : List WData} {vals : List Value}
  (hpre : l.row.toRowW.claim.pre args = true) (hwl : WellAll P h vals args) :
  ∃ a vs ns, vals = [Value.ref a] ∧ args = [WData.list (ns.map WData.int)] ∧ h.get? a = some { cls := .type "list", data := .seq vs.toArray } ∧ IntsAre vs ns ∧ ns.length ≤ n := by
 have hsh : WShape.hasAll [] args [.list .int] = true := (pre_splitW hpre).1
 have hc : l.pre.holds [] { args := args } = true := (pre_splitW hpre).2
 obtain ⟨d, r, rfl, h1, h2⟩ := hasAllW_cons hsh
 obtain rfl := hasAllW_nil h2
 obtain ⟨xs, rfl, h3⟩ := hasW_list h1
 obtain ⟨ns, rfl⟩ := items_int h3
 have hlen : ns.length ≤ n := by
  unfold OpenLaw.pre at hc
  have h4 : (WTm.not (.lt (.lit (.int (n : Int))) (.len (.arg 0)))).holds [] { args := [.list (ns.map .int)] } = true := by
   have h4 := (holds_andW hc).1
   rw [hn] at h4
   exact h4
  have h5 := condW_of h4 (w_not (w_lt w_lit (w_len_list (w_arg rfl))))
  rw [List.length_map] at h5
  refine Nat.le_of_not_lt fun q => ?_
  have q' : (n : Int) < ((ns.length : Nat) : Int) := by omega
  first
   | (rw [decide_eq_true q'] at h5; exact absurd h5 (by decide))
   | (simp at h5; omega)
 cases hwl with
 | cons w1 w2 =>
  cases w2
  cases w1 with
  | list ho hall => exact ⟨_, _, ns, rfl, rfl, ho, ints_of_wellAll ns _ hall, hlen⟩
theorem post_true (l : OpenLaw) (args : List WData) : l.row.toRowW.claim.post args (.bool true) args = true :=
 postW_of (r := l.row.toRowW) (X := (true == true))
  (show WShape.has [] (.bool true) .bool = true by first | rfl | decide | simp [WShape.has, WShape.arms, WShape.armsAll])
  (show (WTm.eq .res (.lit (.bool true))).value [] { args := args, res := some (.bool true), after := args } = some (.bool (true == true)) from w_eq_bool (w_res rfl) w_lit) rfl
theorem attach_call {l : OpenLaw} {n : Nat} {q : Program} {loose : List Str} {XP : (Str → Option Value) → Heap → Prop} {YP : World → Heap → Prop} {d : DefRec}
  (hn : l.most = some n) (hdf : d.params.defaults = [])
  (call : ∀ (w : World) (s₀ s₁ : Shared) (mg mb : Str → Option Value) (fa : Addr) (o : Obj) (pm cd doc : Value) (a : Addr) (vs : List Value) (ns : List Int),
   Ground q loose [] XP w s₀ mg mb s₁.heap → YP w s₁.heap →
   s₁.heap.get? fa = some o → o.data = .func (docDef d.name d.params d.body d.scope pm cd doc) → s₁.heap.CodeRec cd d.name → mg d.name = some (.ref fa) →
   s₁.heap.get? a = some { cls := .type "list", data := .seq vs.toArray } → IntsAre vs ns → ns.length ≤ n → s₁.gens = #[] →
   codeAny (model l.prog w) callerA (.call (.ref fa) ⟨[.ref a], []⟩) (fun r s' => r = .ok (.ret (.bool true)) ∧ OldK s₁.heap s'.heap ∧ s'.os = s₁.os ∧ AllBare s'.gens) s₁) :
  WalkO q loose XP YP l.row.toRowW d [] (fun f vs => PySem.call f vs) := by
 intro w s₀ s₁ mg mb G Y fa o pm cd doc dV kV ho hd hcd hD hmg hg args vals as hpre hlay hrd hwl hlo
 obtain rfl : dV = .none := Dflts.none hD hdf
 obtain rfl : kV = .none := Dflts.noKw hD
 obtain ⟨a, vs, ns, rfl, rfl, hobj, hints, hlen⟩ := script_of hn hpre hwl
 refine enter_call (codeAny_mono (call w s₀ s₁ mg mb fa o pm cd doc a vs ns G Y ho (fd_plain hd) hcd hmg hobj hints hlen hg) fun r s' hq => ?_)
 obtain ⟨rfl, h2, h3, h4⟩ := hq
 exact ⟨.inl ⟨.bool true, .bool true, [], rfl, fun _ => rfl, .bool true, post_true l _, fun _ => ⟨List.Pairwise.nil, fun _ hm => (nomatch hm)⟩⟩, h2, h3, h4⟩
section
variable {prog : Program} {w : World} {A : Around} {E : Value → Shared → Prop} {s : Shared} {K : Frag}
def ledger (h : Heap) (L d : Addr) : List (Addr × Obj) := (List.range h.objs.size).filterMap fun a => if a = L ∨ a = d then none else (h.get? a).map fun o => (a, o)
end
end Att
namespace L2
open PySem PySem.Spec PyProof.Rows
theorem vals_ints : ∀ {vs : List Value} {ns : List Int}, IntsAre vs ns → Vals (ns.map V.int) vs
 | _, _, .nil => .nil
 | _, _, .cons n t h => .cons ⟨t, rfl⟩ (vals_ints h)
def Only (H : Hp) : Prop := ∀ b, H b = none ∨ ∃ o xs, H b = some (.frz o (.lst xs))
theorem law_call {P : Program} {w : World} {K : PySem.W.Frag} {mg mb : Str → Option Value} {CX : CXT} {k : Nat} {fa a : Addr} {fd : FuncData} {x : Str} {sp : Sp} {s₁ : Shared} {vs : List Value} {ns : List Int}
  (KX : K.In s₁.heap) (hns : s₁.heap.Ns mainGlobals mg) (hb : s₁.heap.Ns builtinsNs mb) (hbb : ∀ x : Str, x ≠ "__name__" → mb x = bootBuiltins x) (hlim : s₁.heap.NoLimit) (hg : s₁.gens = #[])
  (ha : s₁.heap.get? a = some { cls := .type "list", data := .seq vs.toArray }) (hi : IntsAre vs ns) (hl : ns.length ≤ sizeLine) (hr : Room k callerA)
  (F : ∀ base : Heap, K.In base → base.Ns mainGlobals mg → FnOk P w K mg base CX k fa fd [x] sp) (hbind : ∀ (s : Shared) (u : Value), BindsTo s fd ⟨[u], []⟩ [(x, u)])
  (hsp : ∀ H : Hp, Only H → SqL K H a (ns.map V.int) → sp [.ref a] H (fun v _ => v = .bl true) fun _ _ _ => False)
  (hCX : ∀ H e s', CX [] H s₁ (fun _ _ _ => False) e s' → False) :
  codeAny (model P w) callerA (.call (.ref fa) ⟨[.ref a], []⟩) (fun r s' => r = .ok (.ret (.bool true)) ∧ OldK s₁.heap s'.heap ∧ s'.os = s₁.os ∧ AllBare s'.gens) s₁ := by
 have rv := vals_ints hi
 have lenV := hi.length
 have core : ∀ H : Hp, Only H → SqL K H a (ns.map V.int) → HOk P w H s₁.heap → (∀ b, H b ≠ none → b = a) → (H a ≠ none → K.lookup a = none) →
   codeAny (model P w) callerA (.call (.ref fa) ⟨[.ref a], []⟩) (fun r s' => r = .ok (.ret (.bool true)) ∧ OldK s₁.heap s'.heap ∧ s'.os = s₁.os ∧ AllBare s'.gens) s₁ := by
  intro H hO hS hok hA hK
  have base_of : ∀ {b : Addr} {o : Obj}, s₁.heap.get? b = some o → H b = none → (hidT s₁.heap H).get? b = some o := fun e n => hidT_get e n
  have noA : ∀ {b : Addr} {o : Obj} {es : Array DictEntry} {ep : Nat}, s₁.heap.get? b = some o → o.data = .dict es ep → H b = none := fun {b o es ep} e d => by
   cases q : H b with
   | none => rfl
   | some u =>
    have e' : b = a := hA b (by rw [q]; simp)
    subst e'
    rw [ha] at e; cases e
    have d' : Data.seq vs.toArray _ = Data.dict es ep := d
    cases d'
  have nsK : ∀ {b : Addr} {m : Str → Option Value}, s₁.heap.Ns b m → (hidT s₁.heap H).Ns b m := fun {b m} ⟨o, es, ep, e, d, r⟩ => ⟨o, es, ep, base_of e (noA e d), d, r⟩
  have hKb : K.In (hidT s₁.heap H) := fun b o e => base_of (KX b o e) (by
   cases q : H b with
   | none => rfl
   | some u =>
    have e' : b = a := hA b (by rw [q]; simp)
    subst e'
    rw [hK (by rw [q]; simp)] at e; cases e)
  have hM : Mod K mg (hidT s₁.heap H) := ⟨hKb, nsK hns, ⟨mb, nsK hb, hbb⟩, let ⟨mc, h1, h2⟩ := hlim; ⟨mc, nsK h1, h2⟩⟩
  have e0 : Env0 P w K mg (hidT s₁.heap H) callerA [] s₁ H := ⟨rfl, hM, fun b o e => of_hidT e, Nat.le_of_eq (hidT_size _ _), trivial, fun b hb => absurd (show b ∈ ([] : List Addr) from hb) (by simp), hok, .of_eq hg⟩
  refine codeAny_mono ((F _ hKb (nsK hns)).run callerA [] s₁ H ⟨[.ref a], []⟩ [.ref a] [.ref a] _ _ hr e0 (hbind s₁ (.ref a)) (.cons rfl .nil) (hsp H hO hS)) fun r s' h => ?_
  cases r with
  | error e => exact (hCX H e s' h).elim
  | ok fl =>
   cases fl with
   | next => exact False.elim h
   | brk => exact False.elim h
   | cont => exact False.elim h
   | ret u =>
    obtain ⟨v, H', os, bare, un, hok', r', q⟩ := h
    have q' : v = .bl true := q
    subst q'
    obtain rfl : u = Value.bool true := r'
    refine ⟨rfl, OldK.of_keep fun b o e => ?_, os, bare⟩
    cases q : H b with
    | none => exact un.keep b o e q (by intro z; exact absurd (show b ∈ ([] : List Addr) from z) (by simp)) (by simp)
    | some u =>
     rcases hO b with z | ⟨ob, xs, z⟩
     ·rw [q] at z; cases z
     ·have z2 := un.frzs b ob _ z
      obtain ⟨e1, _⟩ := hok b _ z
      obtain ⟨e2, _⟩ := hok' b _ z2
      rw [e] at e1; cases e1
      exact e2
 cases hk : K.lookup a with
 | some o =>
  have e := KX a o hk
  rw [ha] at e
  cases e
  refine core (fun _ => none) (fun _ => .inl rfl) (.inr ⟨_, vs.toArray, _, hk, rfl, rfl, rfl, by rw [List.size_toArray, lenV]; exact hl, by simpa using rv⟩) (fun b u z => by have z' : (none : Option HO) = some u := z; cases z') (fun b z => absurd rfl z) fun z => absurd rfl z
 | none =>
  refine core (fun b => if b = a then some (.frz { cls := .type "list", data := .seq vs.toArray } (.lst (ns.map V.int))) else none) (fun b => ?_) (.inl (.inr ⟨{ cls := .type "list", data := .seq vs.toArray }, if_pos rfl⟩)) (fun b u z => ?_) (fun b z => ?_) fun _ => hk
  ·by_cases hb : b = a
   ·exact .inr ⟨_, _, if_pos hb⟩
   ·exact .inl (if_neg hb)
  ·by_cases hb : b = a
   ·have z' := (if_pos hb).symm.trans z
    cases z'
    subst hb
    exact ⟨ha, by rw [List.length_map]; exact hl, vs, _, rv, ha⟩
   ·have z' := (if_neg hb).symm.trans z
    cases z'
  ·by_cases hb : b = a
   ·exact hb
   ·exact absurd (if_neg hb) z
end L2
namespace L2
open PySem PySem.Spec PyProof.Rows
abbrev KOf {K : PySem.W.Frag} {h : Heap} (_ : K.In h) : PySem.W.Frag := K
theorem walk_of {l : PySem.W.OpenLaw} {n k : Nat} {q : Program} {loose : List Str} {XP : (Str → Option Value) → Heap → Prop} {YP : World → Heap → Prop} {d : DefRec} {K : Params → PySem.W.Frag} {CX : World → CXT} {sp : World → Sp} {x : Str}
  (hn : l.most = some n) (hn2 : n ≤ sizeLine) (hdf : d.params.defaults = []) (hr : Room k callerA)
  (hY : ∀ (w : World) (h : Heap), YP w h → (K w.params).In h)
  (F : ∀ (w : World) (mg : Str → Option Value) (fa : Addr) (h : Heap), (K w.params).In h → h.Ns mainGlobals mg → mg d.name = some (.ref fa) →
   ∃ fd : FuncData, (∀ (s : Shared) (u : Value), BindsTo s fd ⟨[u], []⟩ [(x, u)]) ∧
    ∀ base : Heap, (K w.params).In base → base.Ns mainGlobals mg → FnOk l.prog w (K w.params) mg base (CX w) k fa fd [x] (sp w))
  (hsp : ∀ (w : World) (H : Hp) (a : Addr) (ns : List Int), ns.length ≤ n → Only H → SqL (K w.params) H a (ns.map V.int) → sp w [.ref a] H (fun v _ => v = .bl true) fun _ _ _ => False)
  (hCX : ∀ (w : World) (H : Hp) (s : Shared) (e : Value) (s' : Shared), CX w [] H s (fun _ _ _ => False) e s' → False) :
  PySem.W.WalkO q loose XP YP l.row.toRowW d [] (fun f vs => PySem.call f vs) := by
 refine Att.attach_call hn hdf fun w s₀ s₁ mg mb fa o pm cd doc a vs ns G Y ho hd hcd hmg hobj hints hlen hg => ?_
 have KX := hY w _ Y
 obtain ⟨fd, hb, hF⟩ := F w mg fa _ KX G.T.g hmg
 exact law_call KX G.T.g G.T.b G.T.builtins G.T.nolimit hg hobj hints (Nat.le_trans hlen hn2) hr hF hb (fun H hO hS => hsp w H a ns hlen hO hS) fun H e s' => hCX w H s₁ e s'
end L2
namespace L2
open PySem PySem.Spec PyProof.Rows
def defArgs (s : Stmt) : Arguments := match s with
 | .FunctionDef _ a _ _ _ _ _ _ _ _ => a
 | _ => { posonlyargs := [], args := [], vararg := none, kwonlyargs := [], kw_defaults := [], kwarg := none, defaults := [] }
def defBody (s : Stmt) : List Stmt := match s with
 | .FunctionDef _ _ b _ _ _ _ _ _ _ => b
 | _ => []
def defScope (s : Stmt) : Scope := match s with
 | .FunctionDef _ _ _ _ _ _ sc _ _ _ => sc
 | _ => { kind := .function, names := [], isGenerator := false, isCoroutine := false }
abbrev CX0 : CXT := fun _ _ _ _ _ _ => False
abbrev E0 : XK := fun _ _ _ => False
theorem pass0 {X : Cx} : Passes CX0 X E0 := fun _ _ _ _ _ _ _ h => h.elim
structure Fun (K : PySem.W.Frag) (x qual : Str) (st : Stmt) (f : Addr) (fd : FuncData) : Prop where
 ex : ∃ (oc : Value) (od : Option Addr) (kV doc pm : Value) (an : Option Addr) (cdv ct : Value) (osl : Array (Option Value)),
  fd = PySem.W.fnOf x qual (defArgs st) (defBody st) (defScope st) .none kV doc pm an cdv ct ∧ K.lookup f = some ⟨oc, od, .func fd, osl⟩ ∧ PySem.W.codeIn K cdv qual = true
 kp : PySem.W.keepIn K (.ref f) = true
section
variable {P : Program} {w : World} {K : PySem.W.Frag} {mg : Str → Option Value} {base : Heap}
theorem Fun.ok {x qual : Str} {st : Stmt} {f : Addr} {fd : FuncData} {N ps : List Str} {k : Nat} {sp : Sp} (F : Fun K x qual st f fd) (S : FnScope N ps (defScope st)) (len : ∀ vs H Q E, sp vs H Q E → vs.length = ps.length)
  (hbody : ∀ (cdv : Value) (A : Around) (outer : List Env) (s : Shared) (H : Hp) (vs : List V) (Q : VK) (E : XK), Room k (A.deeper (envOfC qual (defScope st) s.heap.objs.size f cdv)) → sp vs H Q E →
   ∃ t, PSs (cxOf CX0 P w K mg base N qual (defScope st) f cdv A outer s H E).nox (defBody st) t ∧ t { nx := fun _ H' => Q .non H', rt := Q } (start N vs) H) : FnOk P w K mg base CX0 (k + 1) f fd ps sp := by
 obtain ⟨oc, od, kV, doc, pm, an, cdv, ct, osl, rfl, lk, hcd⟩ := F.ex
 refine fn_of lk hcd S len fun A outer s H vs Q E hr hsp => ?_
 obtain ⟨t, h, q⟩ := hbody cdv A outer s H vs Q E hr hsp
 exact ⟨t, h.nox, q⟩
theorem Fun.binds {x qual : Str} {st : Stmt} {f : Addr} {fd : FuncData} {ps : List Str} (F : Fun K x qual st f fd)
  (h : ∀ (kV doc pm : Value) (an : Option Addr) (cdv ct : Value) (us : List Value), us.length = ps.length → bindArgs (PySem.W.fnOf x qual (defArgs st) (defBody st) (defScope st) .none kV doc pm an cdv ct) ⟨us, []⟩ = pure (ps.zip us)) : Binds K fd ps [] := by
 obtain ⟨oc, od, kV, doc, pm, an, cdv, ct, osl, rfl, lk, hcd⟩ := F.ex
 exact .all (h kV doc pm an cdv ct)
theorem fun_mk {x qual : Str} {st : Stmt} {f : Addr} {oc : Value} {od an : Option Addr} {osl : Array (Option Value)} {kV doc pm cdv ct : Value} (l : K.lookup f = some ⟨oc, od, .func (PySem.W.fnOf x qual (defArgs st) (defBody st) (defScope st) .none kV doc pm an cdv ct), osl⟩)
  (c : PySem.W.codeIn K cdv qual = true) (k : PySem.W.keepIn K (.ref f) = true) : Fun K x qual st f (PySem.W.fnOf x qual (defArgs st) (defBody st) (defScope st) .none kV doc pm an cdv ct) := ⟨⟨oc, od, kV, doc, pm, an, cdv, ct, osl, rfl, l, c⟩, k⟩
end
theorem small1000 {n : Nat} (h : n ≤ 1000) : n < sizeLine := Nat.lt_of_le_of_lt h (by decide)
section
variable {X : Cx}
theorem pv (i : Nat) {x : Str} {pos : Pos} (hN : X.N[i]? = some x := by rfl) (hv : Vis X.env.scope x := by first | exact Or.inl rfl | exact Or.inr (Or.inl rfl) | exact Or.inr (Or.inr rfl)) (hd : (x == ("__debug__" : Str)) = false := by decide)
  (hcd : (x == ("__classdict__" : Str)) = false := by decide) : PE X (.Name x pos) (tVar i) := pe_var hN hv hd hcd
end
theorem iteF {A B : Prop} (h : B) : if false = true then A else B := by
 rw [if_neg Bool.false_ne_true]
 exact h
theorem iteT {A B : Prop} (h : A) : if true = true then A else B := by
 rw [if_pos rfl]
 exact h
def Same (H H' : Hp) : Prop := ∀ b o, H b = some o → H' b = some o
theorem Same.refl (H : Hp) : Same H H := fun _ _ h => h
theorem Same.trans {H H1 H2 : Hp} (a : Same H H1) (b : Same H1 H2) : Same H H2 := fun c o h => b c o (a c o h)
theorem Same.free {H H' : Hp} (e : Same H H') {l : Addr} (h : H' l = Option.none) : H l = Option.none := by
 cases q : H l with
 | none => rfl
 | some o =>
  rw [e l o q] at h
  cases h
end L2
namespace L2
open PySem PySem.Spec PyProof.Rows
section
variable {κ : Type} [DecidableEq κ]
def valV (kvs : List (κ × V)) (k : κ) : Option V := (kvs.find? fun kv => decide (kv.1 = k)).map (·.2)
def putK (kvs : List (κ × V)) (k : κ) (v : V) : List (κ × V) :=
 if (kvs.any fun kv => decide (kv.1 = k)) = true then kvs.map (fun kv => if kv.1 = k then (kv.1, v) else kv) else kvs ++ [(k, v)]
theorem valV_pos {p : κ × V} {r : List (κ × V)} {k : κ} (e : p.1 = k) : valV (p :: r) k = some p.2 := by simp [valV, List.find?_cons, e]
theorem valV_neg {p : κ × V} {r : List (κ × V)} {k : κ} (e : ¬ p.1 = k) : valV (p :: r) k = valV r k := by simp [valV, List.find?_cons, e]
theorem valV_any (k : κ) : ∀ kvs : List (κ × V), (kvs.any fun kv => decide (kv.1 = k)) = (valV kvs k).isSome
 | [] => rfl
 | p :: r => by
  rw [List.any_cons]
  by_cases e : p.1 = k
  ·simp only [valV_pos e, decide_eq_true e, Bool.true_or, Option.isSome_some]
  ·rw [valV_neg e, decide_eq_false e, Bool.false_or]; exact valV_any k r
theorem length_putK (kvs : List (κ × V)) (k : κ) (v : V) : (putK kvs k v).length ≤ kvs.length + 1 := by
 unfold putK
 split
 ·rw [List.length_map]; omega
 ·rw [List.length_append, List.length_cons, List.length_nil]; omega
theorem RelO.isSome_eq {o : Option V} {u : Option Value} (r : RelO o u) : o.isSome = u.isSome := by
 cases o with
 | none => cases u with
  | none => rfl
  | some _ => exact (show False from r).elim
 | some _ => cases u with
  | none => exact (show False from r).elim
  | some _ => rfl
theorem KV.val {kvs : List (κ × V)} {vs : List (κ × Value)} (r : KV kvs vs) (k : κ) : RelO (valV kvs k) (valueAt vs k) := by
 unfold KV at r
 induction r with
 | nil => exact True.intro
 | @cons p q ps qs h t ih =>
  obtain ⟨h1, h2⟩ := h
  by_cases e : p.1 = k
  ·have e' : q.1 = k := h1.symm.trans e
   have b : valueAt (q :: qs) k = some q.2 := by simp [valueAt, List.find?_cons, e']
   rw [valV_pos e, b]; exact h2
  ·have e' : ¬ q.1 = k := fun z => e (h1.trans z)
   have b : valueAt (q :: qs) k = valueAt qs k := by simp [valueAt, List.find?_cons, e']
   rw [valV_neg e, b]; exact ih
theorem KV.any {kvs : List (κ × V)} {vs : List (κ × Value)} (r : KV kvs vs) (k : κ) : (kvs.any fun kv => decide (kv.1 = k)) = vs.any fun kv => decide (kv.1 = k) := by
 unfold KV at r
 induction r with
 | nil => rfl
 | cons h t ih => rw [List.any_cons, List.any_cons, ih, h.1]
theorem KV.repl {kvs : List (κ × V)} {vs : List (κ × Value)} (r : KV kvs vs) (k : κ) {y : V} {u : Value} (ry : RelV y u) :
  KV (kvs.map fun kv => if kv.1 = k then (kv.1, y) else kv) (vs.map fun kv => if kv.1 = k then (kv.1, u) else kv) := by
 unfold KV at r ⊢
 induction r with
 | nil => exact .nil
 | @cons p q ps qs h t ih =>
  rw [List.map_cons, List.map_cons]
  refine .cons ?_ ih
  obtain ⟨h1, h2⟩ := h
  by_cases e : p.1 = k
  ·rw [if_pos e, if_pos (h1.symm.trans e)]; exact ⟨h1, ry⟩
  ·rw [if_neg e, if_neg (fun z => e (h1.trans z))]; exact ⟨h1, h2⟩
theorem KV.put {kvs : List (κ × V)} {vs : List (κ × Value)} (r : KV kvs vs) (k : κ) {y : V} {u : Value} (ry : RelV y u) : KV (putK kvs k y) (stored vs k u) := by
 unfold putK stored
 rw [r.any k]
 by_cases e : (vs.any fun kv => decide (kv.1 = k)) = true
 ·rw [if_pos e, if_pos e]; exact r.repl k ry
 ·rw [if_neg e, if_neg e]; exact Paired.snoc r ⟨rfl, ry⟩
theorem KV.length {kvs : List (κ × V)} {vs : List (κ × Value)} (r : KV kvs vs) : kvs.length = vs.length := Paired.length r
end
theorem kV_is {P : Program} {w : World} {k : Key} {u : Value} (r : RelV (kV k) u) : (mixKind P w).is k u = true := by
 cases k with
 | inl i => obtain ⟨t, e⟩ := (show ∃ t, u = Value.int i t from r); subst e; exact mixKind_int P w i t
 | inr x => obtain ⟨t, e⟩ := (show ∃ t, u = Value.str x t from r); subst e; exact mixKind_str P w x t
theorem items_are {P : Program} {w : World} : ∀ {ks : List Key} {us : List Value}, Vals (ks.map kV) us → ItemsAre (mixKind P w) ks us
 | [], _, r => by rw [List.map_nil] at r; cases r; exact .nil
 | k :: ks, _, r => by
  rw [List.map_cons] at r
  cases r with
  | cons h t => exact .cons (kV_is h) (items_are t)
abbrev KT (H : Hp) : List (List Key × V) → List (List Key × Addr × Value) → Prop := Paired fun p q => p.1 = q.1 ∧ H q.2.1 = some (.tup (p.1.map kV)) ∧ RelV p.2 q.2.2
theorem KT.val {H : Hp} {kvs : List (List Key × V)} {xs : List (List Key × Addr × Value)} (r : KT H kvs xs) (k : List Key) : RelO (valV kvs k) ((atKey xs k).map (·.2)) := by
 induction r with
 | nil => exact True.intro
 | @cons p q ps qs h t ih =>
  obtain ⟨h1, _, h2⟩ := h
  by_cases e : p.1 = k
  ·have e' : q.1 = k := h1.symm.trans e
   have b : atKey (q :: qs) k = some q.2 := by simp [atKey, List.find?_cons, e']
   rw [valV_pos e, b]; exact h2
  ·have e' : ¬ q.1 = k := fun z => e (h1.trans z)
   have b : atKey (q :: qs) k = atKey qs k := by simp [atKey, List.find?_cons, e']
   rw [valV_neg e, b]; exact ih
theorem KT.repl {H : Hp} {kvs : List (List Key × V)} {xs : List (List Key × Addr × Value)} (r : KT H kvs xs) (k : List Key) {y : V} {u : Value} (ry : RelV y u) :
  KT H (kvs.map fun kv => if kv.1 = k then (kv.1, y) else kv) (xs.map (putAt k u)) := by
 induction r with
 | nil => exact .nil
 | @cons p q ps qs h t ih =>
  rw [List.map_cons, List.map_cons]
  refine .cons ?_ ih
  obtain ⟨h1, h2, h3⟩ := h
  unfold putAt
  by_cases e : p.1 = k
  ·rw [if_pos e, if_pos (h1.symm.trans e)]; exact ⟨h1, h2, ry⟩
  ·rw [if_neg e, if_neg (fun z => e (h1.trans z))]; exact ⟨h1, h2, h3⟩
theorem KT.put {H : Hp} {kvs : List (List Key × V)} {xs : List (List Key × Addr × Value)} (r : KT H kvs xs) (k : List Key) {b : Addr} {y : V} {u : Value} (hb : H b = some (.tup (k.map kV))) (ry : RelV y u) :
  KT H (putK kvs k y) (storedH xs k b u) := by
 have e : (kvs.any fun kv => decide (kv.1 = k)) = (atKey xs k).isSome := by
  rw [valV_any, (r.val k).isSome_eq, Option.isSome_map]
 unfold putK storedH
 rw [e]
 by_cases q : (atKey xs k).isSome = true
 ·rw [if_pos q, if_pos q]; exact r.repl k ry
 ·rw [if_neg q, if_neg q]; exact Paired.snoc r ⟨rfl, hb, ry⟩
theorem KT.keeps {H H' : Hp} {kvs : List (List Key × V)} {xs : List (List Key × Addr × Value)} (r : KT H kvs xs) (ht : ∀ b ys, H b = some (.tup ys) → H' b = some (.tup ys)) : KT H' kvs xs :=
 Paired.mapP r fun _ _ z => ⟨z.1, ht _ _ z.2.1, z.2.2⟩
section
variable {P : Program} {w : World} {H : Hp} {h : Heap} {a : Addr}
theorem rd_of {u : HO} (ok : HOk P w H h) (e : Rd H a u) : ObjOk P w H h a u := e.ok ok
theorem dk_rd {kvs : List (Key × V)} (ok : HOk P w H h) (e : Rd H a (.dK kvs)) : kvs.length ≤ sizeLine ∧ (a == sysModules) = false ∧ ∃ vs, KV kvs vs ∧ h.DictOf (mixKind P w) a vs :=
 show ObjOk P w H h a (.dK kvs) from rd_of ok e
theorem dk_of {kvs : List (Key × V)} (ok : HOk P w H h) (e : H a = some (.dK kvs)) : kvs.length ≤ sizeLine ∧ (a == sysModules) = false ∧ ∃ vs, KV kvs vs ∧ h.DictOf (mixKind P w) a vs := dk_rd ok (.inl e)
theorem key_of {ks : List Key} (ok : HOk P w H h) (e : H a = some (.tup (ks.map kV))) : (tupleKind (mixKind P w)).is h ks a := by
 obtain ⟨_, its, r, o, h1, h2, n, h3⟩ := (show ObjOk P w H h a (.tup (ks.map kV)) from ok a _ e)
 exact ⟨o, its.toArray, n, h1, h2.1, h3, by simpa using items_are r⟩
theorem dt_rd {kvs : List (List Key × V)} (ok : HOk P w H h) (e : Rd H a (.dT kvs)) : kvs.length ≤ sizeLine ∧ (a == sysModules) = false ∧
  ∃ xs, KT H kvs xs ∧ h.DictOfH (tupleKind (mixKind P w)) a xs := by
 obtain ⟨z, y, xs, r, o, es, ep, h1, h2, h3, h4, h5⟩ := (show ObjOk P w H h a (.dT kvs) from rd_of ok e)
 refine ⟨z, y, xs, r, o, es, ep, h1, h2, h3, h4, fun x hx => ?_, h5⟩
 have all : ∀ {l : List (List Key × V)} {m : List (List Key × Addr × Value)}, KT H l m → ∀ x ∈ m, (tupleKind (mixKind P w)).is h x.1 x.2.1 := by
  intro l m q
  induction q with
  | nil => intro x hx; exact nomatch hx
  | @cons p q ps qs hq t ih =>
   intro x hx
   rcases List.mem_cons.mp hx with e | hx
   ·subst e
    exact key_of ok (by rw [← hq.1]; exact hq.2.1)
   ·exact ih x hx
 exact all r x hx
theorem dt_of {kvs : List (List Key × V)} (ok : HOk P w H h) (e : H a = some (.dT kvs)) : kvs.length ≤ sizeLine ∧ (a == sysModules) = false ∧
  ∃ xs, KT H kvs xs ∧ h.DictOfH (tupleKind (mixKind P w)) a xs := dt_rd ok (.inl e)
end
def DGet (H : Hp) (a : Addr) (y : V) (r : Option V) : Prop :=
 (∃ kvs k, Rd H a (.dK kvs) ∧ y = kV k ∧ r = valV kvs k) ∨ ∃ kvs k b, Rd H a (.dT kvs) ∧ y = .ref b ∧ H b = some (.tup (k.map kV)) ∧ r = valV kvs k
def DPut (H : Hp) (a : Addr) (y v : V) (H' : Hp) : Prop :=
 (∃ kvs k, H a = some (.dK kvs) ∧ y = kV k ∧ kvs.length < sizeLine ∧ H' = upd H a (.dK (putK kvs k v))) ∨
 ∃ kvs k b, H a = some (.dT kvs) ∧ y = .ref b ∧ H b = some (.tup (k.map kV)) ∧ kvs.length < sizeLine ∧ H' = upd H a (.dT (putK kvs k v))
theorem DGet.k {H : Hp} {a : Addr} {kvs : List (Key × V)} {k : Key} (e : H a = some (.dK kvs)) : DGet H a (kV k) (valV kvs k) := .inl ⟨kvs, k, .inl e, rfl, rfl⟩
theorem DPut.k {H : Hp} {a : Addr} {kvs : List (Key × V)} {k : Key} {v : V} (e : H a = some (.dK kvs)) (hl : kvs.length < sizeLine) : DPut H a (kV k) v (upd H a (.dK (putK kvs k v))) := .inl ⟨kvs, k, e, rfl, hl, rfl⟩
section
variable {X : Cx} {pins : List (Addr × Obj)} {σ : St} {H : Hp} {s : Shared} {a : Addr} {y v : V} {u r : Value} {o : Option V} {A : Around} {E : Value → Shared → Prop}
theorem Inv.big (I : Inv X pins σ H s) : sysModules < s.heap.objs.size := by
 have h : mainGlobals < s.heap.objs.size := (I.mod.glob.keeps I.bk).lt
 exact Nat.lt_trans (by decide) h
theorem d_in {Q : Value → Shared → Prop} (hu : A.units + 1 < cLine) (I : Inv X pins σ H s) (g : DGet H a y o) (ry : RelV y u) (h : ∀ s', Inv X pins σ H s' → Q (.bool o.isSome) s') :
  wpAny (model X.prog X.w) A (compareOp .In u (.ref a)) Q E s := by
 rcases g with ⟨kvs, k, e, ey, l⟩ | ⟨kvs, k, b, e, ey, eb, l⟩
 ·subst ey
  obtain ⟨z, hd, vs, rel, dd⟩ := dk_rd I.hok e
  refine wpAny_in_of (kV_is ry) hd dd.mapOf ?_
  rw [← (rel.val k).isSome_eq, ← l]
  exact h _ (I.tok _)
 ·subst ey
  cases (show u = Value.ref b from ry)
  obtain ⟨z, hd, xs, rel, dd⟩ := dt_rd I.hok e
  refine wpAny_in_heap (tupleKind_room_in1 hu) (key_of I.hok eb) hd dd ?_
  have q := (rel.val k).isSome_eq
  rw [Option.isSome_map] at q
  rw [← q, ← l]
  exact h _ (I.tok _)
theorem d_write {h' : Heap} {t' : Nat} {ob : HO} (I : Inv X pins σ H s) (mu : Mut (H a)) (hs : Heap.SameBut a s.heap h') (he : ∃ q, h'.get? a = some q) (new : ObjOk X.prog X.w (upd H a ob) h' a ob) :
  Inv X pins σ (upd H a ob) { s with heap := h', toks := t' } :=
 I.write (x := a) (e := a) mu (.inl rfl) (fun b q hb z => (hs.2 b hb).trans z) he new
theorem dk_new {P : Program} {w : World} {H' : Hp} {h' : Heap} {kvs : List (Key × V)} {vs : List (Key × Value)} (z : kvs.length ≤ sizeLine) (hd : (a == sysModules) = false) (rel : KV kvs vs) (dd : h'.DictOf (mixKind P w) a vs) :
  ObjOk P w H' h' a (.dK kvs) := ⟨z, hd, vs, rel, dd⟩
theorem d_setItem {H' : Hp} {Q : Unit → Shared → Prop} (hu : A.units + 1 < cLine) (I : Inv X pins σ H s) (g : DPut H a y v H') (ry : RelV y u) (rv : RelV v r) (h : ∀ s', Inv X pins σ H' s' → Q () s') :
  wpAny (model X.prog X.w) A (setItem (.ref a) u r) Q E s := by
 rcases g with ⟨kvs, k, e, ey, l, eH⟩ | ⟨kvs, k, b, e, ey, eb, l, eH⟩
 ·subst ey eH
  obtain ⟨z, hd, vs, rel, dd⟩ := dk_of I.hok e
  have hz : vs.length ≤ sizeLine := by rw [← rel.length]; exact z
  have hl : (putK kvs k v).length ≤ sizeLine := by have := length_putK kvs k v; omega
  refine wpAny_setItem_pairs (hsz := hz) (kV_is ry) dd fun h' dd' hs => h _ ?_
  have he : ∃ q, h'.get? a = some q := let ⟨q, _, _, hq, _⟩ := dd'; ⟨q, hq⟩
  exact d_write I (by rw [e]; exact True.intro) hs he (dk_new hl hd (rel.put k rv) dd')
 ·subst ey eH
  cases (show u = Value.ref b from ry)
  obtain ⟨z, hd, xs, rel, dd⟩ := dt_of I.hok e
  have hz : xs.length ≤ sizeLine := by rw [← Paired.length rel]; exact z
  have hl : (putK kvs k v).length ≤ sizeLine := by have := length_putK kvs k v; omega
  refine wpAny_setItem_heap (hsz := hz) (tupleKind_room_in1 hu) (key_of I.hok eb) dd fun h' dd' hs => h _ ?_
  obtain ⟨q, es, ep, hq, h2, h3, h4, _, h5⟩ := dd'
  refine d_write I (by rw [e]; exact True.intro) hs ⟨q, hq⟩ ⟨hl, hd, _, (rel.put k eb rv).keeps fun c ys ec => ?_, q, es, ep, hq, h2, h3, h4, h5⟩
  rw [upd_ne (ne_of ec e (fun z => nomatch z))]
  exact ec
end
section
variable {X : Cx} {pins : List (Addr × Obj)} {σ : St} {H : Hp} {s : Shared} {a : Addr} {kvs : List (Key × V)} {k : Key} {u : Value} {A : Around} {E : Value → Shared → Prop}
end
def tDIn (ty td : TE) : TE := fun σ H Q => ty σ H fun y H1 => td σ H1 fun x H2 => ∃ a o, x = .ref a ∧ DGet H2 a y o ∧ Q (.bl o.isSome) H2
def sDPut (td ty tv : TE) : TS := fun D σ H => tv σ H fun v H1 => td σ H1 fun x H2 => ty σ H2 fun y H3 => ∃ a H4, x = .ref a ∧ DPut H3 a y v H4 ∧ D.nx σ H4
section
variable {X : Cx} {o i e value : Expr} {pos pos' tpos : Pos} {td ty tv : TE}
theorem pc_din (hu : X.A.units + 1 < cLine) (hi : PE X i ty) (ho : PE X o td) : PC X .In i o (tDIn ty td) := by
 intro pins s σ H Q I h
 refine thn (hi pins s σ H _ I h) fun iv s1 ⟨y, H1, I1, ry, q1⟩ => thn (ho pins s1 σ H1 _ I1 q1) fun u s2 ⟨x, H2, I2, rx, a, ov, ex, g, q2⟩ => ?_
 subst ex
 obtain rfl : u = Value.ref a := rx
 exact d_in hu I2 g ry fun s3 I3 => ⟨.bl ov.isSome, H2, I3, rfl, q2⟩
theorem ps_dput (hu : X.A.units + 1 < cLine) (ho : PE X o td) (hi : PE X i ty) (hv : PE X value tv) (hs : swapsWith value (some (.Subscript o i pos')) pos.line X.env = pure false) :
  PS X (.Assign [.Subscript o i pos'] value pos) (sDPut td ty tv) := by
 intro pins s σ H D I h
 refine wpAny_Assign_Subscript (thn (hv pins s σ H _ I h) fun r s1 ⟨v, H1, I1, rv, q1⟩ => thn (ho pins s1 σ H1 _ I1 q1) fun u s2 ⟨x, H2, I2, rx, q2⟩ => thn (hi pins s2 σ H2 _ I2 q2) fun iv s3 ⟨y, H3, I3, ry, a, H4, ex, g, q3⟩ => ?_) hs
 subst ex
 obtain rfl : u = Value.ref a := rx
 exact d_setItem hu I3 g ry rv fun s4 I4 => ⟨σ, H4, I4, q3⟩
end
theorem dk_empty {P : Program} {w : World} {H : Hp} (h : Heap) (hb : sysModules < h.objs.size) : ObjOk P w H (h.push { cls := .type "dict", data := .dict #[] }) h.objs.size (.dK []) :=
 ⟨Nat.zero_le _, beq_eq_false_iff_ne.mpr (Ne.symm (Nat.ne_of_lt hb)), [], .nil, Heap.DictOf.new h⟩
def tDNewK : TE := fun _ H Q => ∀ p, H p = none → Q (.ref p) (upd H p (.dK []))
section
variable {X : Cx} {pos : Pos}
theorem pe_dnewK : PE X (.Dict [] [] pos) tDNewK := fun pins s σ H Q I h =>
 wpAny_Dict_empty ⟨.ref s.heap.objs.size, _, I.laid (a := s.heap.objs.size) (o := .dK []) (t' := s.toks) (fun _ _ q => Heap.get?_push_of_some _ q) (Nat.le_refl _) (dk_empty s.heap I.big), rfl, h _ (I.hok.fresh (Nat.le_refl _))⟩
end
structure M1 (X : Cx) (o : Expr) (m : Str) (apos : Pos) (e : Expr) (cpos : Pos) : Prop where
 base : attributeBase o m X.env (eval o X.env) = eval o X.env
 few : ((backTo cpos (starEach [e] X.env)).all (fun x => !x.1) && (backToKw cpos (keywordEach [] X.env)).all (fun x => x.1.isSome)
  && decide (([e] : List Expr).length + ([] : List Keyword).length + (if ([] : List Keyword).isEmpty then 0 else 1) < 30)) = true
 line : (apos.endLine == cpos.line) = true
 trees : backTo cpos (starEach [e] X.env) = [(false, eval e X.env)]
structure M2 (X : Cx) (o : Expr) (m : Str) (apos : Pos) (e f : Expr) (cpos : Pos) : Prop where
 base : attributeBase o m X.env (eval o X.env) = eval o X.env
 few : ((backTo cpos (starEach [e, f] X.env)).all (fun x => !x.1) && (backToKw cpos (keywordEach [] X.env)).all (fun x => x.1.isSome)
  && decide (([e, f] : List Expr).length + ([] : List Keyword).length + (if ([] : List Keyword).isEmpty then 0 else 1) < 30)) = true
 line : (apos.endLine == cpos.line) = true
 trees : backTo cpos (starEach [e, f] X.env) = [(false, eval e X.env), (false, eval f X.env)]
section
variable {X : Cx} {pins : List (Addr × Obj)} {σ : St} {H : Hp} {s : Shared} {a : Addr} {y d : V} {u r : Value} {o : Option V} {A : Around} {E : Value → Shared → Prop}
end
section
variable {X : Cx} {o e f : Expr} {apos cpos : Pos} {td ty tx : TE}
end
section
variable {X : Cx} {pins : List (Addr × Obj)} {σ : St} {H : Hp} {s : Shared} {a : Addr} {kvs : List (Key × V)} {A : Around} {E : Value → Shared → Prop}
end
section
variable {X : Cx} {pins : List (Addr × Obj)} {σ : St} {H : Hp} {s : Shared} {a : Addr} {y : V} {u : Value} {A : Around} {E : Value → Shared → Prop}
end
end L2
namespace L2
open PySem PySem.Spec PyProof.Rows
def closL (cells : List (Str × Addr)) : List (Str × NameKind) → List (Str × Addr) → List (Str × Addr)
 | [], acc => acc
 | (n, k) :: r, acc => if k == .free then closL cells r ((n, (cells.lookup n).getD 0) :: acc) else closL cells r acc
theorem closL_forIn {env : Env} (f : Str × NameKind → List (Str × Addr) → Sem (ForInStep (List (Str × Addr))))
  (hf : ∀ n k cs, f (n, k) cs = if k == .free then (do let a ← cellOf env n; pure (.yield ((n, a) :: cs))) else pure (.yield cs)) :
  ∀ (names : List (Str × NameKind)) (acc : List (Str × Addr)), (∀ n, (n, NameKind.free) ∈ names → ∃ c, env.cells.lookup n = some c) → forIn names acc f = pure (closL env.cells names acc)
 | [], acc, _ => by rw [List.forIn_nil]; rfl
 | (n, k) :: r, acc, h => by
  have hr := closL_forIn f hf r
  rw [List.forIn_cons, hf]
  unfold closL
  by_cases hk : (k == NameKind.free) = true
  ·rw [if_pos hk, if_pos hk]
   have ek : k = .free := eq_of_beq hk
   subst ek
   obtain ⟨c, e⟩ := h n List.mem_cons_self
   have e1 : cellOf env n = pure c := by unfold cellOf; rw [e]
   rw [e1, e]
   exact hr _ fun m hm => h m (List.mem_cons_of_mem _ hm)
  ·rw [if_neg hk, if_neg hk]
   exact hr _ fun m hm => h m (List.mem_cons_of_mem _ hm)
theorem closureFor_closL {scope : Scope} {env : Env} (h : ∀ n, (n, NameKind.free) ∈ scope.names → ∃ c, env.cells.lookup n = some c) : closureFor scope env = pure (closL env.cells scope.names []) := by
 simp only [closureFor]
 rw [closL_forIn _ (fun n k cs => by cases hkc : k == NameKind.free <;> simp [hkc]) scope.names [] h]
 rfl
theorem closL_mem {cells : List (Str × Addr)} : ∀ (names : List (Str × NameKind)) (acc : List (Str × Addr)) {x : Str} {c : Addr}, (x, c) ∈ closL cells names acc → (x, c) ∈ acc ∨ ((x, NameKind.free) ∈ names ∧ c = (cells.lookup x).getD 0)
 | [], _, _, _, h => .inl h
 | (n, k) :: r, acc, x, c, h => by
  unfold closL at h
  by_cases hk : (k == NameKind.free) = true
  ·rw [if_pos hk] at h
   have ek : k = .free := eq_of_beq hk
   subst ek
   rcases closL_mem r _ h with z | ⟨z1, z2⟩
   ·rcases List.mem_cons.mp z with q | q
    ·cases q
     exact .inr ⟨List.mem_cons_self, rfl⟩
    ·exact .inl q
   ·exact .inr ⟨List.mem_cons_of_mem _ z1, z2⟩
  ·rw [if_neg hk] at h
   rcases closL_mem r _ h with z | ⟨z1, z2⟩
   ·exact .inl z
   ·exact .inr ⟨List.mem_cons_of_mem _ z1, z2⟩
theorem lookup_some_of_mem {α : Type} {x : Str} {c : α} : ∀ {l : List (Str × α)}, (x, c) ∈ l → (l.lookup x).isSome = true
 | (n, d) :: r, h => by
  rw [List.lookup_cons]
  cases hb : x == n with
  | true => rfl
  | false =>
   rcases List.mem_cons.mp h with q | q
   ·cases q
    simp at hb
   ·exact lookup_some_of_mem q
theorem closL_has {cells : List (Str × Addr)} {x : Str} : ∀ (names : List (Str × NameKind)) (acc : List (Str × Addr)), (x, NameKind.free) ∈ names ∨ (∃ c, (x, c) ∈ acc) → ∃ c, (x, c) ∈ closL cells names acc
 | [], _, h => h.elim (fun z => nomatch z) id
 | (n, k) :: r, acc, h => by
  unfold closL
  by_cases hk : (k == NameKind.free) = true
  ·rw [if_pos hk]
   refine closL_has r _ ?_
   rcases h with z | ⟨c, z⟩
   ·rcases List.mem_cons.mp z with q | q
    ·cases q
     exact .inr ⟨_, List.mem_cons_self⟩
    ·exact .inl q
   ·exact .inr ⟨c, List.mem_cons_of_mem _ z⟩
  ·rw [if_neg hk]
   refine closL_has r _ ?_
   rcases h with z | z
   ·rcases List.mem_cons.mp z with q | q
    ·cases q
     exact absurd (by rfl) hk
    ·exact .inl q
   ·exact .inr z
theorem cellsFrom_mem : ∀ (names : List (Str × NameKind)) (h : Heap) (acc : List (Str × Addr)) {x : Str} {c : Addr}, (x, c) ∈ cellsFrom h.objs.size names acc →
  (x, c) ∈ acc ∨ ((x, NameKind.cell) ∈ names ∧ h.objs.size ≤ c ∧ (pushCells h names).IsCell c none)
 | [], _, _, _, _, hm => .inl hm
 | (n, k) :: r, h, acc, x, c, hm => by
  unfold cellsFrom at hm
  unfold pushCells
  by_cases hk : (k == NameKind.cell) = true
  ·rw [if_pos hk] at hm
   rw [if_pos hk]
   have ek : k = .cell := eq_of_beq hk
   subst ek
   have e : (h.push { cls := .type "cell", data := .cell none }).objs.size = h.objs.size + 1 := Heap.size_push ..
   rw [← e] at hm
   rcases cellsFrom_mem r _ _ hm with z | ⟨z1, z2, z3⟩
   ·rcases List.mem_cons.mp z with q | q
    ·cases q
     exact .inr ⟨List.mem_cons_self, Nat.le_refl _, ⟨_, pushCells_keeps r _ _ _ (Heap.get?_push_size _ rfl), rfl⟩⟩
    ·exact .inl q
   ·exact .inr ⟨List.mem_cons_of_mem _ z1, by omega, z3⟩
  ·rw [if_neg hk] at hm
   rw [if_neg hk]
   rcases cellsFrom_mem r h acc hm with z | ⟨z1, z2, z3⟩
   ·exact .inl z
   ·exact .inr ⟨List.mem_cons_of_mem _ z1, z2, z3⟩
theorem cellsFrom_has {x : Str} : ∀ (names : List (Str × NameKind)) (n : Nat) (acc : List (Str × Addr)), (x, NameKind.cell) ∈ names ∨ (∃ c, (x, c) ∈ acc) → ∃ c, (x, c) ∈ cellsFrom n names acc
 | [], _, _, h => h.elim (fun z => nomatch z) id
 | (y, k) :: r, n, acc, h => by
  unfold cellsFrom
  by_cases hk : (k == NameKind.cell) = true
  ·rw [if_pos hk]
   refine cellsFrom_has r _ _ ?_
   rcases h with z | ⟨c, z⟩
   ·rcases List.mem_cons.mp z with q | q
    ·cases q
     exact .inr ⟨_, List.mem_cons_self⟩
    ·exact .inl q
   ·exact .inr ⟨c, List.mem_cons_of_mem _ z⟩
  ·rw [if_neg hk]
   refine cellsFrom_has r _ _ ?_
   rcases h with z | z
   ·rcases List.mem_cons.mp z with q | q
    ·cases q
     exact absurd (by rfl) hk
    ·exact .inl q
   ·exact .inr z
theorem cellsFrom_inj (lo : Nat) : ∀ (names : List (Str × NameKind)) (n : Nat) (acc : List (Str × Addr)), (∀ x y c, (x, c) ∈ acc → (y, c) ∈ acc → lo ≤ c → x = y) → (∀ p ∈ acc, p.2 < n) →
  ∀ x y c, (x, c) ∈ cellsFrom n names acc → (y, c) ∈ cellsFrom n names acc → lo ≤ c → x = y
 | [], _, _, h, _ => h
 | (m, k) :: r, n, acc, h, hb => by
  unfold cellsFrom
  by_cases hk : (k == NameKind.cell) = true
  ·rw [if_pos hk]
   refine cellsFrom_inj lo r (n + 1) ((m, n) :: acc) (fun x y c hx hy hc => ?_) fun p hp => ?_
   ·rcases List.mem_cons.mp hx with q | q <;> rcases List.mem_cons.mp hy with q' | q'
    ·cases q; cases q'; rfl
    ·cases q
     exact absurd (hb _ q') (Nat.lt_irrefl _)
    ·cases q'
     exact absurd (hb _ q) (Nat.lt_irrefl _)
    ·exact h x y c q q' hc
   ·rcases List.mem_cons.mp hp with q | q
    ·cases q; exact Nat.lt_succ_self _
    ·exact Nat.lt_succ_of_lt (hb p q)
  ·rw [if_neg hk]
   exact cellsFrom_inj lo r n acc h hb
theorem lookup_relabel (env : Env) (x : Str) : ∀ names : List (Str × NameKind),
  (names.map fun (n, k) => if (k == NameKind.free && env.scope.kind == .function && env.kindOf n == some .cell) then (n, NameKind.cell) else (n, k)).lookup x =
   (names.lookup x).map fun k => if (k == NameKind.free && env.scope.kind == .function && env.kindOf x == some .cell) then NameKind.cell else k
 | [] => rfl
 | (n, k) :: r => by
  have ih := lookup_relabel env x r
  show List.lookup x ((if (k == NameKind.free && env.scope.kind == .function && env.kindOf n == some .cell) = true then (n, NameKind.cell) else (n, k)) :: _) = _
  cases hx : x == n with
  | true =>
   have e := eq_of_beq hx
   subst e
   by_cases hc : (k == NameKind.free && env.scope.kind == .function && env.kindOf x == some .cell) = true
   ·rw [if_pos hc]
    simp only [List.lookup_cons, beq_self_eq_true, Option.map_some, hc, if_true]
   ·rw [if_neg hc]
    simp only [List.lookup_cons, beq_self_eq_true, Option.map_some]
    rw [if_neg hc]
  | false =>
   by_cases hc : (k == NameKind.free && env.scope.kind == .function && env.kindOf n == some .cell) = true
   ·rw [if_pos hc]; simp only [List.lookup_cons, hx]; exact ih
   ·rw [if_neg hc]; simp only [List.lookup_cons, hx]; exact ih
theorem wpAny_newFunctionEnv_comp {M : Model} {A : Around} {E : Value → Shared → Prop} {s : Shared} {scope : Scope} {globals : Addr} {closure : List (Str × Addr)} {qual : Str} {env : Env} {Q : Env → Shared → Prop}
  (hQ : Q (newEnv scope s.heap.objs.size globals (cellsFrom (s.heap.objs.size + 1) scope.names closure) qual none .none (some env) builtinsNs)
   { s with heap := pushCells (s.heap.push { cls := .type "dict", data := .dict #[] }) scope.names }) :
  wpAny M A (newFunctionEnv scope globals closure [] qual none .none (some env)) Q E s := by
 simp only [newFunctionEnv, Option.isSome_some, if_true]
 refine wpAny_bind (wpAny_alloc ?_)
 refine wpAny_bind (wpAny_layCells _ (fun name kind cells => by cases hkc : kind == NameKind.cell <;> simp [hkc]) _ _ _ _ ?_)
 rw [show ({ s with heap := s.heap.push { cls := .type "dict", data := .dict #[] } } : Shared).heap.objs.size = s.heap.objs.size + 1 from Heap.size_push ..]
 refine wpAny_bind ?_
 rw [List.forIn_nil]
 exact wpAny_pure (wpAny_pure hQ)
def capOk (out names : List (Str × NameKind)) : Bool := names.all fun p => !(decide (p.2 = NameKind.free)) || (decide (out.lookup p.1 = some NameKind.cell) || decide (out.lookup p.1 = some NameKind.free))
def nmOk (N N' : List Str) (names : List (Str × NameKind)) : Bool := (List.range N.length).all fun i => match N'[i]? with
 | some y => decide (names.lookup y = none) || (decide (names.lookup y = some NameKind.free) && decide (N[i]? = some y))
 | none => false
structure CompScope (N : List Str) (out : List (Str × NameKind)) (N' : List Str) (k : Nat) (sc : Scope) : Prop where
 kind : sc.kind = .function
 len : N'.length = N.length + k
 cap : capOk out sc.names = true
 nm : nmOk N N' sc.names = true
 uniq : sc.names.all (fun p => decide (sc.names.lookup p.1 = some p.2)) = true
def cxComp (X : Cx) (N' : List Str) (sc : Scope) (s : Shared) (H : Hp) (fp : List Addr) (pins : List (Addr × Obj)) (E : Value → Shared → Prop) : Cx where
 prog := X.prog
 w := X.w
 K := X.K
 mg := X.mg
 base := X.base
 A := X.A
 N := N'
 s₀ := s
 H₀ := H
 env := compEnvC sc (cellsFrom (s.heap.objs.size + 1) sc.names (closL X.env.cells sc.names [])) s.heap.objs.size X.env
 outer := X.stack
 stack := X.stack
 ex := fp
 fn := fun x => decide (sc.names.lookup x = some .cell)
 calm := X.calm
 pn := X.pn ++ pins
 xe := E
section
variable {X : Cx} {N' : List Str} {k : Nat} {sc : Scope} {pins : List (Addr × Obj)} {σ : St} {H : Hp} {s : Shared} {fp : List Addr} {E : Value → Shared → Prop}
theorem CompScope.fr (S : CompScope X.N X.env.scope.names N' k sc) {x : Str} (h : (x, NameKind.free) ∈ sc.names) : X.env.kindOf x = some .cell ∨ X.env.kindOf x = some .free := by
 have q := List.all_eq_true.mp S.cap _ h
 simp at q
 exact q
theorem CompScope.look {N : List Str} {out : List (Str × NameKind)} (S : CompScope N out N' k sc) {x : Str} {kd : NameKind} (h : (x, kd) ∈ sc.names) : sc.names.lookup x = some kd := by
 have q := List.all_eq_true.mp S.uniq _ h
 exact of_decide_eq_true q
theorem comp_inv (S : CompScope X.N X.env.scope.names N' k sc) (I : Inv X pins σ H s) (hf : ∀ b ∈ fp, FpOk X pins H b) (hlt : ∀ b ∈ fp, b < s.heap.objs.size) :
  Inv (cxComp X N' sc s H fp pins E) [] (σ ++ List.replicate k none) H { s with heap := pushCells (s.heap.push { cls := .type "dict", data := .dict #[] }) sc.names } := by
 have keeps : ∀ b o, s.heap.get? b = some o → (pushCells (s.heap.push { cls := .type "dict", data := .dict #[] }) sc.names).get? b = some o := fun b o e => pushCells_keeps _ _ _ _ (Heap.get?_push_of_some _ e)
 have hsz : (s.heap.push { cls := .type "dict", data := .dict #[] }).objs.size = s.heap.objs.size + 1 := Heap.size_push ..
 have hns : (pushCells (s.heap.push { cls := .type "dict", data := .dict #[] }) sc.names).Ns s.heap.objs.size (fun _ => none) := (Heap.Ns.new s.heap (.type "dict")).keeps (pushCells_keeps _ _)
 have frc : ∀ x, (x, NameKind.free) ∈ sc.names → ∃ c, X.env.cells.lookup x = some c := fun x h => I.ok.has x (S.fr h)
 have cm : ∀ x c, (x, c) ∈ cellsFrom (s.heap.objs.size + 1) sc.names (closL X.env.cells sc.names []) →
   ((x, NameKind.cell) ∈ sc.names ∧ s.heap.objs.size + 1 ≤ c ∧ (pushCells (s.heap.push { cls := .type "dict", data := .dict #[] }) sc.names).IsCell c none) ∨ ((x, NameKind.free) ∈ sc.names ∧ X.env.cells.lookup x = some c) := fun x c h => by
  rw [← hsz] at h
  rcases cellsFrom_mem _ _ _ h with z | ⟨z1, z2, z3⟩
  ·rcases closL_mem _ _ z with z | ⟨z1, z2⟩
   ·exact nomatch z
   ·obtain ⟨c', e⟩ := frc x z1
    rw [e] at z2
    cases z2
    exact .inr ⟨z1, e⟩
  ·exact .inl ⟨z1, by omega, z3⟩
 have cl : ∀ x c, (cellsFrom (s.heap.objs.size + 1) sc.names (closL X.env.cells sc.names [])).lookup x = some c → (x, c) ∈ cellsFrom (s.heap.objs.size + 1) sc.names (closL X.env.cells sc.names []) := fun x c h => PySem.mem_of_lookup h
 have clt : ∀ x c, X.env.cells.lookup x = some c → c < s.heap.objs.size := fun x c h => by
  obtain ⟨v, q⟩ := I.cell x c h
  exact q.lt
 have has : ∀ x, (x, NameKind.cell) ∈ sc.names ∨ (x, NameKind.free) ∈ sc.names → ∃ c, (cellsFrom (s.heap.objs.size + 1) sc.names (closL X.env.cells sc.names [])).lookup x = some c := fun x h => by
  obtain ⟨c, hc⟩ := cellsFrom_has (x := x) sc.names (s.heap.objs.size + 1) (closL X.env.cells sc.names []) (h.imp id fun z => closL_has _ _ (.inl z))
  exact Option.isSome_iff_exists.mp (lookup_some_of_mem hc)
 have kd : ∀ x kk, (relabel sc X.env).names.lookup x = some kk → ∃ k0, sc.names.lookup x = some k0 ∧ (kk = k0 ∨ (k0 = .free ∧ kk = .cell)) := fun x kk h => by
  have q := lookup_relabel X.env x sc.names
  have h' : (sc.names.map fun (n, k) => if (k == NameKind.free && X.env.scope.kind == .function && X.env.kindOf n == some .cell) then (n, NameKind.cell) else (n, k)).lookup x = some kk := h
  rw [q] at h'
  cases e : sc.names.lookup x with
  | none => rw [e] at h'; cases h'
  | some k0 =>
   rw [e] at h'
   simp only [Option.map_some, Option.some.injEq] at h'
   refine ⟨k0, rfl, ?_⟩
   split at h'
   ·rename_i hc
    simp at hc
    exact .inr ⟨hc.1.1, h'.symm⟩
   ·exact .inl h'.symm
 refine ⟨⟨I.ok.mod, S.kind, I.ok.glob, I.ok.blt, Nat.le_refl _, ?inj, ?has, ?cab, I.ok.hd, I.ok.frames, .inl rfl, ?exf, I.bs, Nat.le_trans I.ok.bsz I.sz, ?noex, ?exfs, I.stack, I.stkFree⟩,
  rfl, I.bare, Un.kept keeps, ⟨_, hns, ?loc⟩, ?cell, I.hok.fresh (Nat.le_refl _), ?freeC, ?pin, I.hok.kept keeps, ?len⟩
 case inj =>
  intro x y c h1 h2
  rcases cm x c (cl x c h1) with ⟨_, l1, _⟩ | ⟨m1, e1⟩
  ·rcases cm y c (cl y c h2) with ⟨_, l2, _⟩ | ⟨m2, e2⟩
   ·refine cellsFrom_inj (s.heap.objs.size + 1) sc.names (s.heap.objs.size + 1) (closL X.env.cells sc.names []) (fun x y c hx _ hc => ?_) (fun p hp => ?_) x y c (cl x c h1) (cl y c h2) l1
    ·rcases closL_mem _ _ hx with z | ⟨z1, z2⟩
     ·exact nomatch z
     ·obtain ⟨c', e⟩ := frc x z1
      rw [e] at z2
      have z3 : c = c' := z2
      subst z3
      exact absurd (clt x c e) (Nat.not_lt.mpr (Nat.le_of_succ_le hc))
    ·obtain ⟨x, c⟩ := p
     rcases closL_mem _ _ hp with z | ⟨z1, z2⟩
     ·exact nomatch z
     ·obtain ⟨c', e⟩ := frc x z1
      rw [e] at z2
      have z3 : c = c' := z2
      subst z3
      exact Nat.lt_succ_of_lt (clt x c e)
   ·exact absurd (clt y c e2) (Nat.not_lt.mpr (Nat.le_of_succ_le l1))
  ·rcases cm y c (cl y c h2) with ⟨_, l2, _⟩ | ⟨m2, e2⟩
   ·exact absurd (clt x c e1) (Nat.not_lt.mpr (Nat.le_of_succ_le l2))
   ·exact I.ok.inj x y c e1 e2
 case has =>
  intro x hx
  refine has x ?_
  rcases hx with hx | hx
  ·obtain ⟨k0, e, h⟩ := kd x _ hx
   rcases h with h | ⟨h, _⟩
   ·subst h; exact .inl (PySem.mem_of_lookup e)
   ·subst h; exact .inr (PySem.mem_of_lookup e)
  ·obtain ⟨k0, e, h⟩ := kd x _ hx
   rcases h with h | ⟨_, h⟩
   ·subst h; exact .inr (PySem.mem_of_lookup e)
   ·cases h
 case cab =>
  intro x c hfn h
  have hfn' : sc.names.lookup x = some NameKind.cell := of_decide_eq_true hfn
  rcases cm x c (cl x c h) with ⟨_, l, _⟩ | ⟨m, _⟩
  ·exact Nat.le_of_succ_le l
  ·rw [S.look m] at hfn'; cases hfn'
 case exf =>
  intro b hb
  refine ⟨Nat.ne_of_lt (hlt b hb), fun x c h => ?_⟩
  rcases cm x c (cl x c h) with ⟨_, l, _⟩ | ⟨_, e⟩
  ·intro z
   subst z
   exact absurd (hlt c hb) (Nat.not_lt.mpr (Nat.le_of_succ_le l))
  ·exact (hf b hb).2.2.2.2.1 x c e
 case noex =>
  intro b o e hb
  rcases (hf b hb).2.2.2.1 with z | z
  ·exact I.ok.noex b o e z
  ·exact absurd (Nat.lt_of_lt_of_le (Heap.lt_size e) (Nat.le_trans I.ok.bsz z)) (Nat.lt_irrefl _)
 case exfs => exact fun b hb z => (List.mem_cons.mp (I.stkSub b z)).elim (hf b hb).2.1 (hf b hb).2.2.1
 case loc =>
  intro i y v h1 h2 h3
  have hl := I.len
  by_cases hi : i < σ.length
  ·rw [List.getElem?_append_left hi] at h2
   have q := List.all_eq_true.mp S.nm i (List.mem_range.mpr (by omega))
   have h1' : N'[i]? = some y := h1
   simp only [h1', Bool.or_eq_true, Bool.and_eq_true, decide_eq_true_eq] at q
   rcases q with q | ⟨q1, q2⟩
   ·exfalso
    rcases h3 with z | z | z <;> (obtain ⟨k0, e, _⟩ := kd y _ z; rw [q] at e; cases e)
   ·have hm := PySem.mem_of_lookup q1
    obtain ⟨m, hn, hloc⟩ := I.loc
    have kk := S.fr hm
    obtain ⟨u, r, l⟩ := hloc i y v q2 h2 (kk.elim (fun z => .inr (.inl z)) fun z => .inr (.inr z))
    refine ⟨u, r, .inr ⟨?_, ?_⟩⟩
    ·rcases h3 with z | z | z
     ·obtain ⟨k0, e, h⟩ := kd y _ z
      rw [q1] at e
      cases e
      rcases h with h | ⟨_, h⟩ <;> cases h
     ·exact .inl z
     ·exact .inr z
    ·rcases l with ⟨l, _⟩ | ⟨_, c, ec, hc⟩
     ·rcases kk with z | z <;> (rw [z] at l; cases l)
     ·obtain ⟨c', e'⟩ := has y (.inr hm)
      refine ⟨c', e', ?_⟩
      rcases cm y c' (cl y c' e') with ⟨m', _⟩ | ⟨_, e2⟩
      ·have := S.look m'
       rw [q1] at this
       cases this
      ·rw [ec] at e2
       cases e2
       exact hc.keeps keeps
  ·rw [List.getElem?_append_right (by omega), List.getElem?_replicate] at h2
   split at h2 <;> cases h2
 case cell =>
  intro x c h
  rcases cm x c (cl x c h) with ⟨_, _, q⟩ | ⟨_, e⟩
  ·exact ⟨_, q⟩
  ·obtain ⟨v, q⟩ := I.cell x c e
   exact ⟨v, q.keeps keeps⟩
 case freeC =>
  intro x c h
  rcases cm x c (cl x c h) with ⟨_, l, _⟩ | ⟨_, e⟩
  ·exact I.hok.fresh (Nat.le_of_succ_le l)
  ·exact I.freeC x c e
 case pin =>
  intro p hp
  have hp' : p ∈ X.pn ++ pins := by
   rcases List.mem_append.mp hp with z | z
   ·exact z
   ·exact nomatch z
  obtain ⟨e, n, ne, nf, d⟩ := I.pin p hp'
  exact ⟨keeps _ _ e, n, Nat.ne_of_lt (Heap.lt_size e), fun z => (List.mem_cons.mp (I.stkSub p.1 z)).elim ne nf, d⟩
 case len =>
  show _ = N'.length
  rw [List.length_append, List.length_replicate, S.len, I.len]
theorem comp_exit {σ' : St} {H' : Hp} {s' : Shared} (I : Inv X pins σ H s) (hf : ∀ b ∈ fp, FpOk X pins H b) (J : Inv (cxComp X N' sc s H fp pins E) [] σ' H' s') : Inv X pins σ H' s' :=
 I.call' J.os J.base J.hok J.bare fun b hb => ⟨(hf b hb).2.2.2.1, (hf b hb).2.1, (hf b hb).2.2.2.2.1, (hf b hb).2.2.2.2.2⟩
theorem comp_gone {H' : Hp} {s' : Shared} {h' : Heap} (I : Inv X pins σ H s) (J : Inv X pins σ H' s') (hn : H' s.heap.objs.size = none) (hb : Heap.SameBut s.heap.objs.size s'.heap h') : Inv X pins σ H' { s' with heap := h' } := by
 refine J.turned (t' := s'.toks) (it := s.heap.objs.size) (fun b o hne e => (hb.2 b hne).trans e) hn (Nat.ne_of_gt I.lt) (.inr I.sz) (fun x c e => ?_) fun p hp => ?_
 ·obtain ⟨v, q⟩ := I.cell x c e
  exact Nat.ne_of_lt q.lt
 ·exact Nat.ne_of_lt (Heap.lt_size (I.pin p hp).1)
end
theorem compLoop_any {prog : Program} {w : World} {A : Around} {R : Result → Shared → Prop} {s : Shared} {elt target iter : Expr} {ifs : List Expr} {scope : Scope} {pos : Pos} {it acc : Value} {env : Env} (I : Nat → Shared → Prop)
  (turn : ∀ n s, I n s → wpAny (model prog w) A (pyNext it) (fun r s₁ => match r with
   | none => R (.ok .next) s₁
   | some v => wpAny (model prog w) A (letOwnedTupleGo target it v) (fun _ s₁' => wpAny (model prog w) A (assign target env v) (fun _ s₂ =>
     wpAny (model prog w) A (forIn ifs true fun c r => if r = true then do let ok ← isTrue c env (eval c env); pure (ForInStep.yield ok) else pure (ForInStep.yield r)) (fun ok s₃ =>
      if ok = true then wpAny (model prog w) A (eval elt env) (fun x s₄ =>
       wpAny (model prog w) A (call (.builtin "list.append") [acc, x]) (fun _ s₅ => ∃ m, m < n ∧ I m s₅) (notedBy (model prog w) A env fun e s' => R (.error e) s') s₄) (notedBy (model prog w) A env fun e s' => R (.error e) s') s₃
      else ∃ m, m < n ∧ I m s₃) (notedBy (model prog w) A env fun e s' => R (.error e) s') s₂) (notedBy (model prog w) A env fun e s' => R (.error e) s') s₁') (notedBy (model prog w) A env fun e s' => R (.error e) s') s₁) (notedBy (model prog w) A env fun e s' => R (.error e) s') s)
  (n : Nat) (h : I n s) :
  codeAny (model prog w) A (.compLoop (.ListComp elt [⟨target, iter, ifs, 0⟩] scope pos) 0 it acc env) R s := by
 refine codeAny_loop rfl I (fun n s hI => ?_) n h
 show wpAny _ A ((compTurn (.ListComp elt [⟨target, iter, ifs, 0⟩] scope pos) 0 it acc env).onRaise (fun x => do noteFrame x env; theTreesLotGoes x)) _ _ s
 refine wpAny_noted ?_
 rw [compTurn_list]
 refine wpAny_bind (wpAny_standAt (wpAny_bind (wpAny_mono (turn n s hI) (fun r s₁ h₁ => ?_) fun _ _ h' => h')))
 cases r with
 | none => exact wpAny_pure h₁
 | some v =>
  refine wpAny_bind (wpAny_mono h₁ (fun _ s₁' h₁' => ?_) fun _ _ h' => h')
  refine wpAny_bind (wpAny_mono h₁' (fun _ s₂ h₂ => wpAny_bind (wpAny_mono h₂ (fun ok s₃ h₃ => ?_) fun _ _ h' => h')) fun _ _ h' => h')
  cases ok with
  | false => exact wpAny_pure ⟨rfl, h₃⟩
  | true =>
   exact wpAny_bind (wpAny_bind (wpAny_mono h₃ (fun x s₄ h₄ => wpAny_bind (wpAny_mono h₄ (fun _ s₅ h₅ => wpAny_pure (wpAny_pure ⟨rfl, h₅⟩)) fun _ _ h' => h')) fun _ _ h' => h'))
def PIfs (X : Cx) (ifs : List Expr) (t : TT) : Prop :=
 ∀ (pins : List (Addr × Obj)) (s : Shared) (σ : St) (H : Hp) (Q : Bool → Hp → Prop), Inv X pins σ H s → t σ H Q →
  wpAny (model X.prog X.w) X.A (forIn ifs true fun c r => if r = true then do let ok ← isTrue c X.env (eval c X.env); pure (ForInStep.yield ok) else pure (ForInStep.yield r)) (TP X pins σ Q) X.xe s
def tYes : TT := fun _ H Q => Q true H
theorem pifs_nil {X : Cx} : PIfs X [] tYes := fun _ _ _ H _ I h => wpAny_tests_nil ⟨H, I, h⟩
theorem pifs_one {X : Cx} {c : Expr} {t : TT} (h : PT X c t) : PIfs X [c] t := fun pins s σ H Q I hw => wpAny_tests_one (h pins s σ H Q I hw)
def tComp (wi : TI) (g : TG) (tc : TT) (te : TE) (k : Nat) : TE := fun σ H Q => wi σ H fun J H1 => ∀ D, H1 D = none →
 ∃ W : Nat → Nat → St → Hp → Prop, (∃ m, W 0 m (σ ++ List.replicate k none) (upd H1 D (.lst []))) ∧ ∀ i m σ' H', W i m σ' H' →
  (J.stop i H' ∧ Q (.ref D) H') ∨ (J.go i H' ∧ ∃ N : St → Hp → Prop, (∀ σ'' H'', N σ'' H'' → ∃ m', m' < m ∧ W (i + 1) m' σ'' H'') ∧
   ∀ x H2, J.yld i H' x H2 → g x σ' H2 fun σ2 H3 => tc σ2 H3 fun b H4 => if b = true then te σ2 H4 fun y H5 => ∃ ys, H5 D = some (.lst ys) ∧ ys.length < sizeLine ∧ N σ2 (upd H5 D (.lst (ys ++ [y]))) else N σ2 H4)
structure PComp (X : Cx) (N' : List Str) (sc : Scope) (tg : Expr) (ifs : List Expr) (elt : Expr) (g : TG) (tc : TT) (te : TE) : Prop where
 pg : ∀ s H fp pins E, PG (cxComp X N' sc s H fp pins E) tg g
 pt : ∀ s H fp pins E, PIfs (cxComp X N' sc s H fp pins E) ifs tc
 pe : ∀ s H fp pins E, PE (cxComp X N' sc s H fp pins E) elt te
section
variable {X : Cx} {N' : List Str} {k : Nat} {sc : Scope} {tg iter elt : Expr} {ifs : List Expr} {pos : Pos} {g : TG} {tc : TT} {te : TE} {wi : TI}
theorem comp_block {pins : List (Addr × Obj)} {σ : St} {H : Hp} {s : Shared} {J : It} {fp : List Addr} {it : Addr} {tn : Nat → Heap → Prop} {Q : VK} {E : Value → Shared → Prop} {RR : Value → Addr → Result → Shared → Prop}
  (hc : X.calm = true) (S : CompScope X.N X.env.scope.names N' k sc) (P : PComp X N' sc tg ifs elt g tc te) (I : Inv X pins σ H s) (T : Turn X.prog X.w X.K tg J fp it tn) (st : tn 0 s.heap) (hf : ∀ b ∈ fp, FpOk X pins H b)
  (hW : ∀ D, H D = none → ∃ W : Nat → Nat → St → Hp → Prop, (∃ m, W 0 m (σ ++ List.replicate k none) (upd H D (.lst []))) ∧ ∀ i m σ' H', W i m σ' H' →
   (J.stop i H' ∧ Q (.ref D) H') ∨ (J.go i H' ∧ ∃ N : St → Hp → Prop, (∀ σ'' H'', N σ'' H'' → ∃ m', m' < m ∧ W (i + 1) m' σ'' H'') ∧
    ∀ x H2, J.yld i H' x H2 → g x σ' H2 fun σ2 H3 => tc σ2 H3 fun b H4 => if b = true then te σ2 H4 fun y H5 => ∃ ys, H5 D = some (.lst ys) ∧ ys.length < sizeLine ∧ N σ2 (upd H5 D (.lst (ys ++ [y]))) else N σ2 H4))
  (hR : ∀ D s3 H3 σ' H' s' E', Inv X pins σ H3 s3 → (∀ b ∈ fp, FpOk X pins H3 b) → Inv (cxComp X N' sc s3 H3 fp pins E') [] σ' H' s' → Q (.ref D) H' → RR (.ref D) s3.heap.objs.size (.ok .next) s') :
  wpAny (model X.prog X.w) X.A (newList []) (fun acc s₃ => wpAny (model X.prog X.w) X.A (newFunctionEnv sc X.env.globals (closL X.env.cells sc.names []) [] X.env.qual none .none (some X.env)) (fun cenv s₄ =>
   codeAny (model X.prog X.w) X.A (.compStart (.ListComp elt [⟨tg, iter, ifs, 0⟩] sc pos) 0 (.ref it) acc { cenv with scope := relabel sc X.env }) (RR acc cenv.locals) s₄) E s₃) E s := by
 obtain ⟨W, ⟨m0, w0⟩, step⟩ := hW s.heap.objs.size (I.hok.fresh (Nat.le_refl _))
 have I3 : Inv X pins σ (upd H s.heap.objs.size (.lst [])) { s with heap := s.heap.push { cls := .type "list", data := .seq ([] : List Value).toArray }, toks := s.toks } := I.lnew (t' := s.toks) .nil (Nat.zero_le _)
 have lt0 : ∀ b ∈ fp, b < s.heap.objs.size := fun b hb => by
  obtain ⟨o, e, _⟩ := T.obj 0 _ st b hb
  exact Heap.lt_size e
 have hf3 : ∀ b ∈ fp, FpOk X pins (upd H s.heap.objs.size (.lst [])) b := fun b hb => ⟨by rw [upd_ne (Nat.ne_of_lt (lt0 b hb))]; exact (hf b hb).1, (hf b hb).2⟩
 have lt3 : ∀ b ∈ fp, b < (s.heap.push { cls := .type "list", data := .seq ([] : List Value).toArray }).objs.size := fun b hb => by
  rw [Heap.size_push]
  exact Nat.lt_succ_of_lt (lt0 b hb)
 refine wpAny_newObj_type (wpAny_newFunctionEnv_comp ?_)
 generalize hs3 : ({ s with heap := s.heap.push { cls := .type "list", data := .seq ([] : List Value).toArray }, toks := s.toks } : Shared) = s3 at I3
 have hsh : s3.heap = s.heap.push { cls := .type "list", data := .seq ([] : List Value).toArray } := by rw [← hs3]
 rw [← hsh] at lt3
 have st3 : tn 0 s3.heap := T.keep _ _ _ st fun b _ o e => by rw [hsh]; exact Heap.get?_push_of_some _ e
 show codeAny _ _ (.compStart _ 0 (.ref it) (.ref s.heap.objs.size) (compEnvC sc (cellsFrom (s3.heap.objs.size + 1) sc.names (closL X.env.cells sc.names [])) s3.heap.objs.size X.env)) (RR (.ref s.heap.objs.size) s3.heap.objs.size)
  { s3 with heap := pushCells (s3.heap.push { cls := .type "dict", data := .dict #[] }) sc.names }
 generalize hD : s.heap.objs.size = D at *
 generalize hEn : (notedBy (model X.prog X.w) X.A (compEnvC sc (cellsFrom (s3.heap.objs.size + 1) sc.names (closL X.env.cells sc.names [])) s3.heap.objs.size X.env) fun e s' => RR (.ref D) s3.heap.objs.size (.error e) s') = En
 have I4 : Inv (cxComp X N' sc s3 (upd H D (.lst [])) fp pins En) [] (σ ++ List.replicate k none) (upd H D (.lst [])) { s3 with heap := pushCells (s3.heap.push { cls := .type "dict", data := .dict #[] }) sc.names } := comp_inv S I3 hf3 lt3
 have st4 : tn 0 (pushCells (s3.heap.push { cls := .type "dict", data := .dict #[] }) sc.names) := T.keep _ _ _ st3 fun b _ o e => pushCells_keeps _ _ _ _ (Heap.get?_push_of_some _ e)
 have stat : ∀ {H' : Hp}, (∀ b ∈ fp, H' b = none) → ∀ b ∈ fp, FpOk (cxComp X N' sc s3 (upd H D (.lst [])) fp pins En) [] H' b := fun hn b hb =>
  ⟨hn b hb, (I4.ok.exf b hb).1, I4.ok.exfs b hb, .inl hb, (I4.ok.exf b hb).2, fun p hp => (hf3 b hb).2.2.2.2.2 p (by
   rcases List.mem_append.mp hp with z | z
   ·exact z
   ·exact nomatch z)⟩
 have loop : codeAny (model X.prog X.w) X.A (.compLoop (.ListComp elt [⟨tg, iter, ifs, 0⟩] sc pos) 0 (.ref it) (.ref D) (cxComp X N' sc s3 (upd H D (.lst [])) fp pins En).env) (RR (.ref D) s3.heap.objs.size)
   { s3 with heap := pushCells (s3.heap.push { cls := .type "dict", data := .dict #[] }) sc.names } := by
  refine compLoop_any (fun n s' => ∃ i σ' H', Inv (cxComp X N' sc s3 (upd H D (.lst [])) fp pins En) [] σ' H' s' ∧ tn i s'.heap ∧ (∀ b ∈ fp, H' b = none) ∧ W i n σ' H') ?_ m0 ⟨0, _, _, I4, st4, fun b hb => (hf3 b hb).1, w0⟩
  have eEn : (notedBy (model X.prog X.w) X.A (cxComp X N' sc s3 (upd H D (.lst [])) fp pins En).env fun e s' => RR (.ref D) s3.heap.objs.size (.error e) s') = En := hEn
  rw [eEn]
  rintro n s5 ⟨i, σ5, H5, I5, st5, fr5, w5⟩
  rcases step i n σ5 H5 w5 with ⟨stop, qn⟩ | ⟨go, N, hN, turn⟩
  ·refine thn (T.done (cxComp X N' sc s3 (upd H D (.lst [])) fp pins En) rfl rfl rfl hc i [] s5 σ5 H5 En I5 (stat fr5) st5 stop) fun r s6 ⟨hr, I6⟩ => ?_
   subst hr
   exact hR D s3 _ σ5 H5 s6 En I3 hf3 I6 qn
  ·refine thn (T.item (cxComp X N' sc s3 (upd H D (.lst [])) fp pins En) rfl rfl rfl hc i [] s5 σ5 H5 En I5 (stat fr5) st5 go) fun r s6 ⟨u, hr, h6⟩ => ?_
   subst hr
   refine thn h6 fun _ s7 ⟨x, H7, I7, r7, y7, st7, fr7⟩ => ?_
   have I7' := I7.pinned (stat fr7) (T.obj _ _ st7)
   have back : ∀ {σ9 : St} {H9 : Hp} {s9 : Shared}, Inv (cxComp X N' sc s3 (upd H D (.lst [])) fp pins En) ([] ++ pinsAt fp s7.heap) σ9 H9 s9 → N σ9 H9 →
     ∃ m, m < n ∧ ∃ i σ' H', Inv (cxComp X N' sc s3 (upd H D (.lst [])) fp pins En) [] σ' H' s9 ∧ tn i s9.heap ∧ (∀ b ∈ fp, H' b = none) ∧ W i m σ' H' := fun {σ9 H9 s9} I9 n9 => by
    obtain ⟨m', hm, w9⟩ := hN σ9 H9 n9
    refine ⟨m', hm, i + 1, σ9, H9, I9.unpinned, T.keep _ _ _ st7 fun b hb o e => (I9.pin (b, o) (List.mem_append_right _ (List.mem_append_right _ (mem_pinsAt hb e)))).1, fun b hb => ?_, w9⟩
    obtain ⟨o, e, d⟩ := T.obj _ _ st7 b hb
    exact (I9.pin (b, o) (List.mem_append_right _ (List.mem_append_right _ (mem_pinsAt hb e)))).2.1
   refine thn (P.pg s3 _ fp pins En _ s7 σ5 H7 x u _ I7' r7 (turn x H7 y7)) fun _ s8 ⟨σ8, H8, I8, q8⟩ => ?_
   refine thn (P.pt s3 _ fp pins En _ s8 σ8 H8 _ I8 q8) fun ok s9 ⟨H9, I9, q9⟩ => ?_
   cases ok with
   | false =>
    rw [if_neg Bool.false_ne_true] at q9
    rw [if_neg Bool.false_ne_true]
    exact back I9 q9
   | true =>
    rw [if_pos rfl] at q9
    rw [if_pos rfl]
    refine thn (P.pe s3 _ fp pins En _ s9 σ8 H9 _ I9 q9) fun y s10 ⟨yv, H10, I10, r10, ys, hys, hl, q10⟩ => ?_
    refine thn (mt_append _ s10 σ8 H10 (.ref D) [yv] (.ref D) [y] (fun _ H' => N σ8 H') I10 rfl (.cons r10 .nil) ⟨D, ys, yv, rfl, rfl, hys, hl, q10⟩) fun _ s11 ⟨_, H11, I11, _, q11⟩ => ?_
    exact back I11 q11
 exact codeAny_compStart_list loop (T.self X.A 0 _ _ _ st4 loop)
theorem CompScope.names' {N : List Str} {out : List (Str × NameKind)} (S : CompScope N out N' k sc) : ∀ x ∈ sc.names, x.2 = .local → sc.names.lookup x.1 = some .local := fun x hx e => by
 obtain ⟨n, kd⟩ := x
 have e' : kd = .local := e
 subst e'
 exact S.look hx
theorem pe_comp (hc : X.calm = true) (S : CompScope X.N X.env.scope.names N' k sc) (hi : PI X tg iter wi) (P : PComp X N' sc tg ifs elt g tc te) (hs : ∀ x, foldedSetIterable iter X.env x = pure x := by intro _; rfl) :
  PE X (.ListComp elt [⟨tg, iter, ifs, 0⟩] sc pos) (tComp wi g tc te k) := by
 intro pins s σ H Q I h
 rw [eval_ListComp]
 refine wpAny_comprehension_free (use := none) rfl hs (closureFor_closL fun n hn => I.ok.has n (S.fr hn)) S.kind S.names' (thn (hi pins s σ H _ I h) fun v s1 h1 => thn h1 fun itv s2 h2 => ?_)
 obtain ⟨it, fp, tn, J, H2, e, I2, T, st2, f2, hW⟩ := h2
 subst e
 refine comp_block (Q := Q) (RR := fun acc C => compPost (model X.prog X.w) X.A X.xe none (EP X pins σ Q) acc C) hc S P I2 T st2 f2 hW ?_
 intro D s3 H3 σ' H' s' E' I3 f3 J' q
 obtain ⟨m, hn, _⟩ := J'.loc
 exact ⟨m, hn, fun h' hb => ⟨.ref D, H', comp_gone I3 (comp_exit I3 f3 J') J'.free hb, rfl, q⟩⟩
theorem ps_setc {i : Nat} {y : Str} {py spos : Pos} (hc : X.calm = true) (S : CompScope X.N X.env.scope.names N' k sc) (hN : X.N.Nodup) (hy : X.N[i]? = some y) (hyl : X.env.scope.names.lookup y = some .local) (hi : PI X tg iter wi) (P : PComp X N' sc tg ifs elt g tc te)
  (hsw : swapsWith (.ListComp elt [⟨tg, iter, ifs, 0⟩] sc pos) (some (.Name y py)) spos.line X.env = pure true := by rfl) (hs : ∀ x, foldedSetIterable iter X.env x = pure x := by intro _; rfl) :
  PS X (.Assign [.Name y py] (.ListComp elt [⟨tg, iter, ifs, 0⟩] sc pos) spos) (tAsg (tComp wi g tc te k) (gName i)) := by
 intro pins s σ H D I h
 rw [exec_Assign_Name_used _ _ _ _ hsw]
 refine wpAny_bind (wpAny_standAt (wpAny_bind ?_))
 show wpAny _ X.A (do let _ ← comprehension (.ListComp elt [⟨tg, iter, ifs, 0⟩] sc pos) sc X.env _ (newList []) false (eval iter X.env) (some (assign (.Name y py) X.env))) _ _ s
 refine wpAny_bind (wpAny_mono (wpAny_comprehension_free (use := some (assign (.Name y py) X.env)) (Q := fun _ s' => SP X pins D .next s') rfl hs (closureFor_closL fun n hn => I.ok.has n (S.fr hn)) S.kind S.names'
  (thn (hi pins s σ H _ I h) fun v s1 h1 => thn h1 fun itv s2 h2 => ?_)) (fun _ s' hq => wpAny_pure (wpAny_pure hq)) fun _ _ e => e)
 obtain ⟨it, fp, tn, J, H2, e, I2, T, st2, f2, hW⟩ := h2
 subst e
 refine comp_block (Q := fun v H' => D.nx (σ.set i (some v)) H') (RR := fun acc C => compPost (model X.prog X.w) X.A X.xe (some (assign (.Name y py) X.env)) (fun _ s' => SP X pins D .next s') acc C) hc S P I2 T st2 f2 hW ?_
 intro a s3 H3 σ' H' s' E' I3 f3 J' q
 have J2 := comp_exit I3 f3 J'
 obtain ⟨m, hn, _⟩ := J'.loc
 show wpAny _ X.A (assign (.Name y py) X.env (.ref a)) _ _ _
 refine wpAny_assign_Name (store_ok2 J2 hN hy (.inl hyl) (v := .ref a) rfl (fun s4 I4 hsb => ?_) (.inr hyl))
 obtain ⟨b, hb, hb'⟩ := hsb
 have hne : b ≠ s3.heap.objs.size := by
  rcases hb' with z | z
  ·rw [z]; exact Nat.ne_of_lt I3.lt
  ·obtain ⟨v, w'⟩ := I3.cell y b z
   exact Nat.ne_of_lt w'.lt
 refine ⟨m, hn.sameBut hb (Ne.symm hne), fun h' hb2 => ⟨_, H', ?_, q⟩⟩
 have I3' : Inv X pins (σ.set i (some (.ref a))) H3 s3 ∨ True := .inr trivial
 refine I4.turned (t' := s4.toks) (it := s3.heap.objs.size) (fun b o hne e => (hb2.2 b hne).trans e) J'.free (Nat.ne_of_gt I3.lt) (.inr I3.sz) (fun x c e => ?_) fun p hp => ?_
 ·obtain ⟨v, q⟩ := I3.cell x c e
  exact Nat.ne_of_lt q.lt
 ·exact Nat.ne_of_lt (Heap.lt_size (I3.pin p hp).1)
end
end L2
namespace L2
open PySem PySem.Spec PyProof.Rows
inductive D where
 | non | bl (b : Bool) | int (i : Int) | str (x : Str) | lst (xs : List D) | tup (xs : List D) | scr (ns : List Int) | dct (ks : List Key) (xs : List D) | exc (x : Str)
def xclsB (K : PySem.W.Frag) (C : Addr) : Bool := PySem.W.findIn K (.ref C) "__getattribute__" == some (some (.builtin "BaseException.__getattribute__")) && PySem.W.findIn K (.ref C) "__getattr__" == some none && PySem.W.mroIn K C (.type "BaseException") == some true && (PySem.W.clsIn K C).isSome && PySem.W.findIn K (.ref C) "__class__" == some (some (.builtin "object.__class__")) &&
 PySem.W.specialIn K (.builtin "object.__class__") "__get__" == some (some (.builtin "getset_descriptor.__get__")) && PySem.W.takesIn K (.builtin "object.__class__") == some true && PySem.W.mroIn K C (.type "object") == some true &&
 ["bool", "int", "str", "list", "tuple", "dict"].all fun T => PySem.W.kitOne K (.ref C) (.type T) == some false
def isX (a C : Addr) (h : Heap) : Prop := ∃ o, h.get? a = some o ∧ o.cls = .ref C ∧ o.dict = none ∧ PySem.W.notCls o = true
def SqF (K : PySem.W.Frag) (H : Hp) (a : Addr) (xs : List V) : Prop :=
 (∃ o, H a = some (.frz o (.lst xs))) ∨ ∃ (o : Obj) (its : Array Value) (n : Nat), K.lookup a = some o ∧ o.cls = .type "list" ∧ o.dict = none ∧ o.data = .seq its n ∧ its.size ≤ sizeLine ∧ Vals xs its.toList
theorem SqF.sq {K : PySem.W.Frag} {H : Hp} {a : Addr} {xs : List V} (h : SqF K H a xs) : SqL K H a xs := h.elim (fun z => .inl (.inr z)) .inr
mutual
def Rep (K : PySem.W.Frag) (H : Hp) (B : Addr → Prop) : D → V → Prop
 | .non, v => v = .non
 | .bl b, v => v = .bl b
 | .int i, v => v = .int i
 | .str x, v => v = .str x
 | .lst ds, v => ∃ a xs, v = .ref a ∧ ¬ B a ∧ H a = some (.lst xs) ∧ Reps K H B ds xs
 | .tup ds, v => ∃ a xs, v = .ref a ∧ SqT K H a xs ∧ Reps K H B ds xs
 | .scr ns, v => ∃ a, v = .ref a ∧ SqF K H a (ns.map V.int)
 | .dct ks ds, v => ∃ a kvs, v = .ref a ∧ ¬ B a ∧ H a = some (.dK kvs) ∧ kvs.map (·.1) = ks ∧ Reps K H B ds (kvs.map (·.2))
 | .exc x, v => ∃ a C, v = .ref a ∧ ¬ B a ∧ H a = some (.ext (isX a C)) ∧ PySem.W.nsIn K mainGlobals x = some (some (.ref C)) ∧ xclsB K C = true
def Reps (K : PySem.W.Frag) (H : Hp) (B : Addr → Prop) : List D → List V → Prop
 | [], xs => xs = []
 | d :: ds, xs => ∃ x r, xs = x :: r ∧ Rep K H B d x ∧ Reps K H B ds r
end
mutual
def Tree (K : PySem.W.Frag) (H : Hp) : D → V → List Addr → Prop
 | .non, v, A => v = .non ∧ A = []
 | .bl b, v, A => v = .bl b ∧ A = []
 | .int i, v, A => v = .int i ∧ A = []
 | .str x, v, A => v = .str x ∧ A = []
 | .lst ds, v, A => ∃ a xs B, v = .ref a ∧ H a = some (.lst xs) ∧ Trees K H ds xs B ∧ A = a :: B
 | .tup ds, v, A => ∃ a xs, v = .ref a ∧ SqT K H a xs ∧ Trees K H ds xs A
 | .scr ns, v, A => (∃ a, v = .ref a ∧ SqF K H a (ns.map V.int)) ∧ A = []
 | .dct ks ds, v, A => ∃ a kvs B, v = .ref a ∧ H a = some (.dK kvs) ∧ kvs.map (·.1) = ks ∧ Trees K H ds (kvs.map (·.2)) B ∧ A = a :: B
 | .exc x, v, A => ∃ a C, v = .ref a ∧ H a = some (.ext (isX a C)) ∧ PySem.W.nsIn K mainGlobals x = some (some (.ref C)) ∧ xclsB K C = true ∧ A = [a]
def Trees (K : PySem.W.Frag) (H : Hp) : List D → List V → List Addr → Prop
 | [], xs, A => xs = [] ∧ A = []
 | d :: ds, xs, A => ∃ x r B C, xs = x :: r ∧ Tree K H d x B ∧ Trees K H ds r C ∧ A = B ++ C
end
mutual
def D.imm : D → Bool
 | .non => true
 | .bl _ => true
 | .int _ => true
 | .str _ => true
 | .lst _ => false
 | .tup ds => imms ds
 | .scr _ => true
 | .dct _ _ => false
 | .exc _ => false
def imms : List D → Bool
 | [] => true
 | d :: ds => d.imm && imms ds
end
theorem Same.tup {K : PySem.W.Frag} {H H' : Hp} {a : Addr} {xs : List V} (e : Same H H') (h : SqT K H a xs) : SqT K H' a xs := by
 rcases h with (h | ⟨o, h⟩) | h
 ·exact .inl (.inl (e _ _ h))
 ·exact .inl (.inr ⟨o, e _ _ h⟩)
 ·exact .inr h
section
variable {K : PySem.W.Frag} {H H' : Hp} {B B' : Addr → Prop}
structure KeepI (K : PySem.W.Frag) (H H' : Hp) : Prop where
 st : ∀ a xs, SqT K H a xs → SqT K H' a xs
 sf : ∀ a xs, SqF K H a xs → SqF K H' a xs
structure Keep (K : PySem.W.Frag) (B : Addr → Prop) (H H' : Hp) : Prop where
 sl : ∀ a xs, ¬ B a → H a = some (.lst xs) → H' a = some (.lst xs)
 st : ∀ a xs, SqT K H a xs → SqT K H' a xs
 sf : ∀ a xs, SqF K H a xs → SqF K H' a xs
 sd : ∀ a kvs, ¬ B a → H a = some (.dK kvs) → H' a = some (.dK kvs)
 sx : ∀ a φ, ¬ B a → H a = some (.ext φ) → H' a = some (.ext φ)
theorem Keep.i (k : Keep K B H H') : KeepI K H H' := ⟨k.st, k.sf⟩
mutual
theorem Rep.keep (k : Keep K B H H') : ∀ (d : D) {v : V}, Rep K H B d v → Rep K H' B d v
 | .non, _, h => h
 | .bl _, _, h => h
 | .int _, _, h => h
 | .str _, _, h => h
 | .lst ds, _, h => by
  unfold Rep at h ⊢
  obtain ⟨a, xs, e, n, s, r⟩ := h
  exact ⟨a, xs, e, n, k.sl a xs n s, Reps.keep k ds r⟩
 | .tup ds, _, h => by
  unfold Rep at h ⊢
  obtain ⟨a, xs, e, s, r⟩ := h
  exact ⟨a, xs, e, k.st a xs s, Reps.keep k ds r⟩
 | .scr ns, _, h => by
  unfold Rep at h ⊢
  obtain ⟨a, e, s⟩ := h
  exact ⟨a, e, k.sf a _ s⟩
 | .dct ks ds, _, h => by
  unfold Rep at h ⊢
  obtain ⟨a, kvs, e, n, s, q, r⟩ := h
  exact ⟨a, kvs, e, n, k.sd a kvs n s, q, Reps.keep k ds r⟩
 | .exc _, _, h => by
  unfold Rep at h ⊢
  obtain ⟨a, C, e, n, s, r⟩ := h
  exact ⟨a, C, e, n, k.sx a _ n s, r⟩
theorem Reps.keep (k : Keep K B H H') : ∀ (ds : List D) {xs : List V}, Reps K H B ds xs → Reps K H' B ds xs
 | [], _, h => h
 | d :: ds, _, h => by
  unfold Reps at h ⊢
  obtain ⟨x, r, e, h1, h2⟩ := h
  exact ⟨x, r, e, Rep.keep k d h1, Reps.keep k ds h2⟩
end
mutual
theorem Rep.anti (hb : ∀ a, B' a → B a) : ∀ (d : D) {v : V}, Rep K H B d v → Rep K H B' d v
 | .non, _, h => h
 | .bl _, _, h => h
 | .int _, _, h => h
 | .str _, _, h => h
 | .lst ds, _, h => by
  unfold Rep at h ⊢
  obtain ⟨a, xs, e, n, s, r⟩ := h
  exact ⟨a, xs, e, fun z => n (hb a z), s, Reps.anti hb ds r⟩
 | .tup ds, _, h => by
  unfold Rep at h ⊢
  obtain ⟨a, xs, e, s, r⟩ := h
  exact ⟨a, xs, e, s, Reps.anti hb ds r⟩
 | .scr _, _, h => h
 | .dct ks ds, _, h => by
  unfold Rep at h ⊢
  obtain ⟨a, kvs, e, n, s, q, r⟩ := h
  exact ⟨a, kvs, e, fun z => n (hb a z), s, q, Reps.anti hb ds r⟩
 | .exc _, _, h => by
  unfold Rep at h ⊢
  obtain ⟨a, C, e, n, r⟩ := h
  exact ⟨a, C, e, fun z => n (hb a z), r⟩
theorem Reps.anti (hb : ∀ a, B' a → B a) : ∀ (ds : List D) {xs : List V}, Reps K H B ds xs → Reps K H B' ds xs
 | [], _, h => h
 | d :: ds, _, h => by
  unfold Reps at h ⊢
  obtain ⟨x, r, e, h1, h2⟩ := h
  exact ⟨x, r, e, Rep.anti hb d h1, Reps.anti hb ds h2⟩
end
mutual
theorem Rep.imm : ∀ (d : D) {v : V}, d.imm = true → Rep K H B d v → Rep K H B' d v
 | .non, _, _, h => h
 | .bl _, _, _, h => h
 | .int _, _, _, h => h
 | .str _, _, _, h => h
 | .lst _, _, i, _ => by unfold D.imm at i; cases i
 | .dct _ _, _, i, _ => by unfold D.imm at i; cases i
 | .exc _, _, i, _ => by unfold D.imm at i; cases i
 | .tup ds, _, i, h => by
  unfold D.imm at i
  unfold Rep at h ⊢
  obtain ⟨a, xs, e, s, r⟩ := h
  exact ⟨a, xs, e, s, Reps.imm ds i r⟩
 | .scr _, _, _, h => h
theorem Reps.imm : ∀ (ds : List D) {xs : List V}, imms ds = true → Reps K H B ds xs → Reps K H B' ds xs
 | [], _, _, h => h
 | d :: ds, _, i, h => by
  unfold imms at i
  rw [Bool.and_eq_true] at i
  unfold Reps at h ⊢
  obtain ⟨x, r, e, h1, h2⟩ := h
  exact ⟨x, r, e, Rep.imm d i.1 h1, Reps.imm ds i.2 h2⟩
end
mutual
theorem Rep.immTree : ∀ (d : D) {v : V}, d.imm = true → Rep K H B d v → Tree K H d v []
 | .non, _, _, h => ⟨h, rfl⟩
 | .bl _, _, _, h => ⟨h, rfl⟩
 | .int _, _, _, h => ⟨h, rfl⟩
 | .str _, _, _, h => ⟨h, rfl⟩
 | .lst _, _, i, _ => by unfold D.imm at i; cases i
 | .dct _ _, _, i, _ => by unfold D.imm at i; cases i
 | .exc _, _, i, _ => by unfold D.imm at i; cases i
 | .tup ds, _, i, h => by
  unfold D.imm at i
  unfold Rep at h
  unfold Tree
  obtain ⟨a, xs, e, s, r⟩ := h
  exact ⟨a, xs, e, s, Reps.immTree ds i r⟩
 | .scr _, _, _, h => ⟨h, rfl⟩
theorem Reps.immTree : ∀ (ds : List D) {xs : List V}, imms ds = true → Reps K H B ds xs → Trees K H ds xs []
 | [], _, _, h => ⟨h, rfl⟩
 | d :: ds, _, i, h => by
  unfold imms at i
  rw [Bool.and_eq_true] at i
  unfold Reps at h
  unfold Trees
  obtain ⟨x, r, e, h1, h2⟩ := h
  exact ⟨x, r, [], [], e, Rep.immTree d i.1 h1, Reps.immTree ds i.2 h2, rfl⟩
end
mutual
theorem Tree.rep : ∀ (d : D) {v : V} {A : List Addr}, Tree K H d v A → (∀ a ∈ A, ¬ B a) → Rep K H B d v
 | .non, _, _, h, _ => h.1
 | .bl _, _, _, h, _ => h.1
 | .int _, _, _, h, _ => h.1
 | .str _, _, _, h, _ => h.1
 | .lst ds, _, _, h, n => by
  unfold Tree at h
  unfold Rep
  obtain ⟨a, xs, C, e, s, r, rfl⟩ := h
  exact ⟨a, xs, e, n a List.mem_cons_self, s, Trees.rep ds r fun b hb => n b (List.mem_cons_of_mem _ hb)⟩
 | .tup ds, _, _, h, n => by
  unfold Tree at h
  unfold Rep
  obtain ⟨a, xs, e, s, r⟩ := h
  exact ⟨a, xs, e, s, Trees.rep ds r n⟩
 | .scr _, _, _, h, _ => h.1
 | .dct ks ds, _, _, h, n => by
  unfold Tree at h
  unfold Rep
  obtain ⟨a, kvs, C, e, s, q, r, rfl⟩ := h
  exact ⟨a, kvs, e, n a List.mem_cons_self, s, q, Trees.rep ds r fun b hb => n b (List.mem_cons_of_mem _ hb)⟩
 | .exc _, _, _, h, n => by
  unfold Tree at h
  unfold Rep
  obtain ⟨a, C, e, s, r1, r2, rfl⟩ := h
  exact ⟨a, C, e, n a List.mem_cons_self, s, r1, r2⟩
theorem Trees.rep : ∀ (ds : List D) {xs : List V} {A : List Addr}, Trees K H ds xs A → (∀ a ∈ A, ¬ B a) → Reps K H B ds xs
 | [], _, _, h, _ => h.1
 | d :: ds, _, _, h, n => by
  unfold Trees at h
  unfold Reps
  obtain ⟨x, r, C, C', e, h1, h2, rfl⟩ := h
  exact ⟨x, r, e, Tree.rep d h1 fun b hb => n b (List.mem_append_left _ hb), Trees.rep ds h2 fun b hb => n b (List.mem_append_right _ hb)⟩
end
mutual
theorem Tree.keep (kt : KeepI K H H') : ∀ (d : D) {v : V} {A : List Addr}, Tree K H d v A → (∀ a ∈ A, ∀ o, H a = some o → H' a = some o) → Tree K H' d v A
 | .non, _, _, h, _ => h
 | .bl _, _, _, h, _ => h
 | .int _, _, _, h, _ => h
 | .str _, _, _, h, _ => h
 | .lst ds, _, _, h, n => by
  unfold Tree at h ⊢
  obtain ⟨a, xs, C, e, s, r, rfl⟩ := h
  exact ⟨a, xs, C, e, n a List.mem_cons_self _ s, Trees.keep kt ds r fun b hb => n b (List.mem_cons_of_mem _ hb), rfl⟩
 | .tup ds, _, _, h, n => by
  unfold Tree at h ⊢
  obtain ⟨a, xs, e, s, r⟩ := h
  exact ⟨a, xs, e, kt.st a xs s, Trees.keep kt ds r n⟩
 | .scr _, _, _, h, _ => by
  unfold Tree at h ⊢
  obtain ⟨⟨a, e, s⟩, q⟩ := h
  exact ⟨⟨a, e, kt.sf a _ s⟩, q⟩
 | .dct ks ds, _, _, h, n => by
  unfold Tree at h ⊢
  obtain ⟨a, kvs, C, e, s, q, r, rfl⟩ := h
  exact ⟨a, kvs, C, e, n a List.mem_cons_self _ s, q, Trees.keep kt ds r fun b hb => n b (List.mem_cons_of_mem _ hb), rfl⟩
 | .exc _, _, _, h, n => by
  unfold Tree at h ⊢
  obtain ⟨a, C, e, s, r1, r2, rfl⟩ := h
  exact ⟨a, C, e, n a List.mem_cons_self _ s, r1, r2, rfl⟩
theorem Trees.keep (kt : KeepI K H H') : ∀ (ds : List D) {xs : List V} {A : List Addr}, Trees K H ds xs A → (∀ a ∈ A, ∀ o, H a = some o → H' a = some o) → Trees K H' ds xs A
 | [], _, _, h, _ => h
 | d :: ds, _, _, h, n => by
  unfold Trees at h ⊢
  obtain ⟨x, r, C, C', e, h1, h2, rfl⟩ := h
  exact ⟨x, r, C, C', e, Tree.keep kt d h1 fun b hb => n b (List.mem_append_left _ hb), Trees.keep kt ds h2 fun b hb => n b (List.mem_append_right _ hb), rfl⟩
end
mutual
theorem Tree.held : ∀ (d : D) {v : V} {A : List Addr}, Tree K H d v A → ∀ a ∈ A, ∃ o, H a = some o ∧ Mut (some o)
 | .non, _, _, h, a, ha => by rw [h.2] at ha; cases ha
 | .bl _, _, _, h, a, ha => by rw [h.2] at ha; cases ha
 | .int _, _, _, h, a, ha => by rw [h.2] at ha; cases ha
 | .str _, _, _, h, a, ha => by rw [h.2] at ha; cases ha
 | .lst ds, _, _, h, b, hb => by
  unfold Tree at h
  obtain ⟨a, xs, C, e, s, r, rfl⟩ := h
  rcases List.mem_cons.mp hb with z | z
  ·subst z; exact ⟨_, s, trivial⟩
  ·exact Trees.held ds r b z
 | .tup ds, _, _, h, b, hb => by
  unfold Tree at h
  obtain ⟨a, xs, e, s, r⟩ := h
  exact Trees.held ds r b hb
 | .scr _, _, _, h, a, ha => by rw [h.2] at ha; cases ha
 | .dct ks ds, _, _, h, b, hb => by
  unfold Tree at h
  obtain ⟨a, kvs, C, e, s, q, r, rfl⟩ := h
  rcases List.mem_cons.mp hb with z | z
  ·subst z; exact ⟨_, s, trivial⟩
  ·exact Trees.held ds r b z
 | .exc _, _, _, h, b, hb => by
  unfold Tree at h
  obtain ⟨a, C, e, s, r1, r2, rfl⟩ := h
  rw [List.mem_singleton.mp hb]
  exact ⟨_, s, trivial⟩
theorem Trees.held : ∀ (ds : List D) {xs : List V} {A : List Addr}, Trees K H ds xs A → ∀ a ∈ A, ∃ o, H a = some o ∧ Mut (some o)
 | [], _, _, h, a, ha => by rw [h.2] at ha; cases ha
 | d :: ds, _, _, h, b, hb => by
  unfold Trees at h
  obtain ⟨x, r, C, C', e, h1, h2, rfl⟩ := h
  rcases List.mem_append.mp hb with z | z
  ·exact Tree.held d h1 b z
  ·exact Trees.held ds h2 b z
end
theorem Same.sf (e : Same H H') {a : Addr} {xs : List V} (h : SqF K H a xs) : SqF K H' a xs := h.elim (fun ⟨o, z⟩ => .inl ⟨o, e _ _ z⟩) .inr
theorem Keep.same (e : Same H H') : Keep K B H H' := ⟨fun _ _ _ h => e _ _ h, fun _ _ h => e.tup h, fun _ _ h => e.sf h, fun _ _ _ h => e _ _ h, fun _ _ _ h => e _ _ h⟩
theorem KeepI.same (e : Same H H') : KeepI K H H' := ⟨fun _ _ h => e.tup h, fun _ _ h => e.sf h⟩
theorem Rep.mono {d : D} {v : V} (h : Rep K H B d v) (e : Same H H') : Rep K H' B d v := Rep.keep (.same e) d h
theorem Reps.mono {ds : List D} {xs : List V} (h : Reps K H B ds xs) (e : Same H H') : Reps K H' B ds xs := Reps.keep (.same e) ds h
theorem Tree.mono {d : D} {v : V} {A : List Addr} (h : Tree K H d v A) (e : Same H H') : Tree K H' d v A := Tree.keep (.same e) d h fun a _ o z => e a o z
theorem Trees.mono {ds : List D} {v : List V} {A : List Addr} (h : Trees K H ds v A) (e : Same H H') : Trees K H' ds v A := Trees.keep (.same e) ds h fun a _ o z => e a o z
mutual
theorem Rep.wide {C : Addr → Prop} (hc : ∀ a, C a → H a = none) : ∀ (d : D) {v : V}, Rep K H B d v → Rep K H (fun a => B a ∨ C a) d v
 | .non, _, h => h
 | .bl _, _, h => h
 | .int _, _, h => h
 | .str _, _, h => h
 | .lst ds, _, h => by
  unfold Rep at h ⊢
  obtain ⟨a, xs, e, n, s, r⟩ := h
  refine ⟨a, xs, e, fun z => z.elim n fun z => ?_, s, Reps.wide hc ds r⟩
  rw [hc a z] at s; cases s
 | .tup ds, _, h => by
  unfold Rep at h ⊢
  obtain ⟨a, xs, e, s, r⟩ := h
  exact ⟨a, xs, e, s, Reps.wide hc ds r⟩
 | .scr _, _, h => h
 | .dct ks ds, _, h => by
  unfold Rep at h ⊢
  obtain ⟨a, kvs, e, n, s, q, r⟩ := h
  refine ⟨a, kvs, e, fun z => z.elim n fun z => ?_, s, q, Reps.wide hc ds r⟩
  rw [hc a z] at s; cases s
 | .exc _, _, h => by
  unfold Rep at h ⊢
  obtain ⟨a, C, e, n, s, r⟩ := h
  refine ⟨a, C, e, fun z => z.elim n fun z => ?_, s, r⟩
  rw [hc a z] at s; cases s
theorem Reps.wide {C : Addr → Prop} (hc : ∀ a, C a → H a = none) : ∀ (ds : List D) {xs : List V}, Reps K H B ds xs → Reps K H (fun a => B a ∨ C a) ds xs
 | [], _, h => h
 | d :: ds, _, h => by
  unfold Reps at h ⊢
  obtain ⟨x, r, e, h1, h2⟩ := h
  exact ⟨x, r, e, Rep.wide hc d h1, Reps.wide hc ds h2⟩
end
theorem Keep.upd {a : Addr} {o : HO} (hb : B a) (mu : Mut (H a)) : Keep K B H (upd H a o) := by
 refine ⟨fun b xs n h => ?_, fun b xs h => ?_, fun b xs h => ?_, fun b kvs n h => ?_, fun b φ n h => ?_⟩
 ·have ne : b ≠ a := fun z => n (z ▸ hb)
  rw [upd_ne ne]; exact h
 ·rcases h with (h | ⟨u, h⟩) | h
  ·have ne : b ≠ a := fun z => by subst z; rw [h] at mu; exact mu
   exact .inl (.inl (by rw [upd_ne ne]; exact h))
  ·have ne : b ≠ a := fun z => by subst z; rw [h] at mu; exact mu
   exact .inl (.inr ⟨u, by rw [upd_ne ne]; exact h⟩)
  ·exact .inr h
 ·rcases h with ⟨u, h⟩ | h
  ·have ne : b ≠ a := fun z => by subst z; rw [h] at mu; exact mu
   exact .inl ⟨u, by rw [upd_ne ne]; exact h⟩
  ·exact .inr h
 ·have ne : b ≠ a := fun z => n (z ▸ hb)
  rw [upd_ne ne]; exact h
 ·have ne : b ≠ a := fun z => n (z ▸ hb)
  rw [upd_ne ne]; exact h
theorem same_upd {a : Addr} {o : HO} (h : H a = none) : Same H (upd H a o) := fun b u e => by rw [upd_ne (ne_of_none e h)]; exact e
theorem Reps.length : ∀ {ds : List D} {xs : List V}, Reps K H B ds xs → ds.length = xs.length
 | [], _, h => by unfold Reps at h; subst h; rfl
 | d :: ds, _, h => by
  unfold Reps at h
  obtain ⟨x, r, rfl, _, h2⟩ := h
  simp [Reps.length h2]
theorem Reps.get : ∀ {ds : List D} {xs : List V} {i : Nat} {d : D}, Reps K H B ds xs → ds[i]? = some d → ∃ x, xs[i]? = some x ∧ Rep K H B d x
 | [], _, _, _, _, e => by simp at e
 | d :: ds, _, i, d', h, e => by
  unfold Reps at h
  obtain ⟨x, r, rfl, h1, h2⟩ := h
  cases i with
  | zero => simp at e; subst e; exact ⟨x, rfl, h1⟩
  | succ i => simpa using Reps.get (i := i) h2 (by simpa using e)
theorem Reps.get' : ∀ {ds : List D} {xs : List V} {i : Nat} {x : V}, Reps K H B ds xs → xs[i]? = some x → ∃ d, ds[i]? = some d ∧ Rep K H B d x
 | [], _, _, _, h, e => by unfold Reps at h; subst h; simp at e
 | d :: ds, _, i, x', h, e => by
  unfold Reps at h
  obtain ⟨x, r, rfl, h1, h2⟩ := h
  cases i with
  | zero => simp at e; subst e; exact ⟨d, rfl, h1⟩
  | succ i => simpa using Reps.get' (i := i) h2 (by simpa using e)
theorem Reps.append : ∀ {ds es : List D} {xs ys : List V}, Reps K H B ds xs → Reps K H B es ys → Reps K H B (ds ++ es) (xs ++ ys)
 | [], _, _, _, h, h' => by unfold Reps at h; subst h; exact h'
 | d :: ds, es, _, ys, h, h' => by
  unfold Reps at h
  obtain ⟨x, r, rfl, h1, h2⟩ := h
  exact (show Reps K H B (d :: (ds ++ es)) (x :: (r ++ ys)) by unfold Reps; exact ⟨x, r ++ ys, rfl, h1, Reps.append h2 h'⟩)
theorem Reps.take : ∀ {ds : List D} {xs : List V} (n : Nat), Reps K H B ds xs → Reps K H B (ds.take n) (xs.take n)
 | _, _, 0, _ => by rw [List.take_zero, List.take_zero]; unfold Reps; rfl
 | [], _, _ + 1, h => by unfold Reps at h; subst h; unfold Reps; rfl
 | d :: ds, _, n + 1, h => by
  unfold Reps at h
  obtain ⟨x, r, rfl, h1, h2⟩ := h
  rw [List.take_succ_cons, List.take_succ_cons]
  unfold Reps
  exact ⟨x, _, rfl, h1, Reps.take n h2⟩
theorem Reps.drop : ∀ {ds : List D} {xs : List V} (n : Nat), Reps K H B ds xs → Reps K H B (ds.drop n) (xs.drop n)
 | _, _, 0, h => h
 | [], _, _ + 1, h => by unfold Reps at h; subst h; unfold Reps; rfl
 | d :: ds, _, n + 1, h => by
  unfold Reps at h
  obtain ⟨x, r, rfl, h1, h2⟩ := h
  exact Reps.drop n h2
theorem Reps.one {d : D} {x : V} (h : Rep K H B d x) : Reps K H B [d] [x] := by unfold Reps; exact ⟨x, [], rfl, h, by unfold Reps; rfl⟩
theorem Reps.nil : Reps K H B [] [] := by unfold Reps; rfl
theorem Reps.cons {d : D} {x : V} {ds : List D} {xs : List V} (h : Rep K H B d x) (h' : Reps K H B ds xs) : Reps K H B (d :: ds) (x :: xs) := by unfold Reps; exact ⟨x, xs, rfl, h, h'⟩
theorem Reps.snoc {d : D} {x : V} {ds : List D} {xs : List V} (h' : Reps K H B ds xs) (h : Rep K H B d x) : Reps K H B (ds ++ [d]) (xs ++ [x]) := h'.append (.one h)
theorem Trees.nil : Trees K H [] [] [] := ⟨rfl, rfl⟩
theorem Trees.snoc : ∀ {ds : List D} {xs : List V} {A C : List Addr} {d : D} {x : V}, Trees K H ds xs A → Tree K H d x C → Trees K H (ds ++ [d]) (xs ++ [x]) (A ++ C)
 | [], _, _, C, d, x, h, h' => by
  obtain ⟨rfl, rfl⟩ := h
  exact (show Trees K H [d] [x] C by unfold Trees; exact ⟨x, [], C, [], rfl, h', ⟨rfl, rfl⟩, (List.append_nil _).symm⟩)
 | e :: ds, _, _, C, d, x, h, h' => by
  unfold Trees at h
  obtain ⟨y, r, A1, A2, rfl, h1, h2, rfl⟩ := h
  exact (show Trees K H (e :: (ds ++ [d])) (y :: (r ++ [x])) (A1 ++ A2 ++ C) by unfold Trees; exact ⟨y, _, A1, A2 ++ C, rfl, h1, Trees.snoc h2 h', List.append_assoc _ _ _⟩)
end
end L2
namespace L2
open PySem PySem.Spec PyProof.Rows
abbrev DS := List (Option D)
abbrev DE := DS → Option D
structure RepS (K : PySem.W.Frag) (H : Hp) (B : Addr → Prop) (σ : St) (δ : DS) : Prop where
 len : δ.length = σ.length
 get : ∀ (i : Nat) (d : D), δ[i]? = some (some d) → ∃ v, σ[i]? = some (some v) ∧ Rep K H B d v
def InB (B : Addr → Prop) (H : Hp) : Prop := ∀ a, B a → ∃ o, H a = some o
def noB : Addr → Prop := fun _ => False
theorem InB.mono {B : Addr → Prop} {H H' : Hp} (h : InB B H) (e : Same H H') : InB B H' := fun a b => let ⟨o, q⟩ := h a b; ⟨o, e a o q⟩
theorem InB.no {H : Hp} : InB noB H := fun _ b => b.elim
theorem InB.fresh {B : Addr → Prop} {H : Hp} (h : InB B H) {a : Addr} (e : H a = none) : ¬ B a := fun b => by
 obtain ⟨o, q⟩ := h a b
 rw [e] at q; cases q
theorem RepS.mono {K : PySem.W.Frag} {H H' : Hp} {B : Addr → Prop} {σ : St} {δ : DS} (h : RepS K H B σ δ) (e : Same H H') : RepS K H' B σ δ :=
 ⟨h.len, fun i d q => let ⟨v, a, r⟩ := h.get i d q; ⟨v, a, r.mono e⟩⟩
theorem RepS.anti {K : PySem.W.Frag} {H : Hp} {B B' : Addr → Prop} {σ : St} {δ : DS} (h : RepS K H B σ δ) (e : ∀ a, B' a → B a) : RepS K H B' σ δ :=
 ⟨h.len, fun i d q => let ⟨v, a, r⟩ := h.get i d q; ⟨v, a, r.anti e⟩⟩
def tD (K : PySem.W.Frag) (f : DE) : TE := fun σ H Q => ∃ B δ d, InB B H ∧ RepS K H B σ δ ∧ f δ = some d ∧ ∀ v H', Same H H' → Rep K H' B d v → Q v H'
def tF (K : PySem.W.Frag) (f : DS → Option (List D)) : TE := fun σ H Q => ∃ B δ ds, InB B H ∧ RepS K H B σ δ ∧ f δ = some ds ∧
 ∀ a xs H', Same H H' → H a = none → H' a = some (.lst xs) → Reps K H' B ds xs → Q (.ref a) H'
def tN (K : PySem.W.Frag) (f : DE) : TE := fun σ H Q => ∃ δ d, RepS K H noB σ δ ∧ f δ = some d ∧ ∀ v H' A, Same H H' → Tree K H' d v A → A.Nodup → (∀ a ∈ A, H a = none) → Q v H'
def tT (K : PySem.W.Frag) (f : DS → Option Bool) : TT := fun σ H Q => ∃ B δ b, InB B H ∧ RepS K H B σ δ ∧ f δ = some b ∧ ∀ H', Same H H' → Q b H'
def tDs (K : PySem.W.Frag) (f : DS → Option (List D)) : TA := fun σ H Q => ∃ B δ ds, InB B H ∧ RepS K H B σ δ ∧ f δ = some ds ∧ ∀ vs H', Same H H' → Reps K H' B ds vs → Q vs H'
abbrev PD (X : Cx) (e : Expr) (f : DE) : Prop := PE X e (tD X.K f)
abbrev PF (X : Cx) (e : Expr) (f : DS → Option (List D)) : Prop := PE X e (tF X.K f)
abbrev PN (X : Cx) (e : Expr) (f : DE) : Prop := PE X e (tN X.K f)
abbrev PTD (X : Cx) (e : Expr) (f : DS → Option Bool) : Prop := PT X e (tT X.K f)
abbrev PWD (X : Cx) (e : Expr) (f : DS → Option Bool) : Prop := PW X e (tT X.K f)
section
variable {X : Cx} {e a b c : Expr} {es : List Expr} {pos : Pos}
theorem PE.imp {t t' : TE} (h : PE X e t) (w : ∀ σ H Q, t' σ H Q → t σ H Q) : PE X e t' := fun pins s σ H Q I q => h pins s σ H Q I (w σ H Q q)
theorem PT.imp {t t' : TT} (h : PT X e t) (w : ∀ σ H Q, t' σ H Q → t σ H Q) : PT X e t' := fun pins s σ H Q I q => h pins s σ H Q I (w σ H Q q)
theorem PW.imp {t t' : TT} (h : PW X e t) (w : ∀ σ H Q, t' σ H Q → t σ H Q) : PW X e t' := fun wh pins s σ H Q I q => h wh pins s σ H Q I (w σ H Q q)
theorem PA.imp {t t' : TA} (h : PA X es t) (w : ∀ σ H Q, t' σ H Q → t σ H Q) : PA X es t' := fun po pins s σ H Q I q => h po pins s σ H Q I (w σ H Q q)
def mkL (f : DS → Option (List D)) : DE := fun δ => (f δ).map .lst
def mkFlat (f : DS → Option (List D)) : DE := fun δ => (f δ).bind fun ds => if imms ds = true then some (.lst ds) else none
def mkImm (f : DE) : DE := fun δ => (f δ).bind fun d => if d.imm = true then some d else none
theorem iDF {K : PySem.W.Frag} {f : DS → Option (List D)} : ∀ σ H Q, tD K (mkL f) σ H Q → tF K f σ H Q := fun σ H Q ⟨B, δ, d, hB, S, q, k⟩ => by
 unfold mkL at q
 cases r : f δ with
 | none => rw [r] at q; cases q
 | some ds =>
  rw [r] at q
  cases q
  exact ⟨B, δ, ds, hB, S, r, fun a xs H' s hn ha hr => k _ H' s (by unfold Rep; exact ⟨a, xs, rfl, hB.fresh hn, ha, hr⟩)⟩
theorem iDN {K : PySem.W.Frag} {f : DE} : ∀ σ H Q, tD K f σ H Q → tN K f σ H Q := fun σ H Q ⟨B, δ, d, hB, S, q, k⟩ =>
 ⟨δ, d, S.anti (fun _ z => z.elim), q, fun v H' A s t nd fr => k v H' s (t.rep d fun a ha => hB.fresh (fr a ha))⟩
theorem iNI {K : PySem.W.Frag} {f : DE} : ∀ σ H Q, tN K (mkImm f) σ H Q → tD K f σ H Q := fun σ H Q ⟨δ, d, S, q, k⟩ => by
 unfold mkImm at q
 cases r : f δ with
 | none => rw [r] at q; cases q
 | some d' =>
  rw [r] at q
  have q' : (if d'.imm = true then some d' else none) = some d := q
  by_cases hi : d'.imm = true
  ·rw [if_pos hi] at q'
   cases q'
   exact ⟨noB, δ, d, .no, S, r, fun v H' s rv => k v H' [] s (rv.immTree d hi) List.nodup_nil (fun a ha => nomatch ha)⟩
  ·rw [if_neg hi] at q'
   cases q'
theorem iNF {K : PySem.W.Frag} {f : DS → Option (List D)} : ∀ σ H Q, tN K (mkFlat f) σ H Q → tF K f σ H Q := fun σ H Q ⟨δ, d, S, q, k⟩ => by
 unfold mkFlat at q
 cases r : f δ with
 | none => rw [r] at q; cases q
 | some ds =>
  rw [r] at q
  have q' : (if imms ds = true then some (D.lst ds) else none) = some d := q
  split at q'
  ·rename_i hi
   cases q'
   refine ⟨noB, δ, ds, .no, S, r, fun a xs H' s hn ha hr => k (.ref a) H' [a] s ?_ (List.nodup_cons.mpr ⟨(fun z => nomatch z), List.nodup_nil⟩) (fun b hb => by rw [List.mem_singleton.mp hb]; exact hn)⟩
   unfold Tree
   exact ⟨a, xs, [], rfl, ha, hr.immTree ds hi, rfl⟩
  ·cases q'
theorem pd_F {f : DS → Option (List D)} (h : PF X e f) : PD X e (mkL f) := h.imp iDF
theorem pd_N {f : DE} (h : PN X e f) : PD X e f := h.imp iDN
theorem pn_I {f : DE} (h : PD X e f) : PN X e (mkImm f) := h.imp iNI
theorem pn_F {f : DS → Option (List D)} (h : PF X e f) : PN X e (mkFlat f) := h.imp iNF
def dVar (i : Nat) : DE := fun δ => (δ[i]?).bind id
def dC (d : D) : DE := fun _ => some d
theorem pd_v (i : Nat) {x : Str} {p : Pos} (h : PE X (.Name x p) (tVar i)) : PD X (.Name x p) (dVar i) := h.imp fun σ H Q ⟨B, δ, d, hB, S, q, k⟩ => by
 unfold dVar at q
 cases r : δ[i]? with
 | none => rw [r] at q; cases q
 | some o =>
  rw [r] at q
  have q' : o = some d := q
  subst q'
  obtain ⟨v, e, rv⟩ := S.get i d r
  exact ⟨v, e, k v H (.refl H) rv⟩
theorem pd_C {d : D} {v : V} (h : PE X e (tC v)) (r : ∀ K H B, Rep K H B d v) : PD X e (dC d) := h.imp fun σ H Q ⟨B, δ, d', hB, S, q, k⟩ => by
 cases q
 exact k v H (.refl H) (r _ _ _)
theorem pd_int {i j p} : PD X (.Constant (.int i) j p) (dC (.int i)) := pd_C pe_int fun _ _ _ => rfl
theorem pd_bl {i j p} : PD X (.Constant (.bool i) j p) (dC (.bl i)) := pd_C pe_bl fun _ _ _ => rfl
theorem pd_non {j p} : PD X (.Constant .none j p) (dC .non) := pd_C pe_non fun _ _ _ => rfl
theorem pd_str {i j p} : PD X (.Constant (.str i) j p) (dC (.str i)) := pd_C pe_str fun _ _ _ => rfl
def d2 (F : D → D → Option D) (f g : DE) : DE := fun δ => (f δ).bind fun x => (g δ).bind fun y => F x y
theorem d2_some {F : D → D → Option D} {f g : DE} {δ : DS} {d : D} (h : d2 F f g δ = some d) : ∃ x y, f δ = some x ∧ g δ = some y ∧ F x y = some d := by
 unfold d2 at h
 cases hx : f δ with
 | none => rw [hx] at h; cases h
 | some x =>
  rw [hx] at h
  cases hy : g δ with
  | none =>
   have h' : ((g δ).bind fun y => F x y) = some d := h
   rw [hy] at h'; cases h'
  | some y =>
   have h' : ((g δ).bind fun y => F x y) = some d := h
   rw [hy] at h'
   exact ⟨x, y, rfl, rfl, h'⟩
def Op2 (K : PySem.W.Frag) (r : R2) (F : D → D → Option D) : Prop := ∀ (H : Hp) (B : Addr → Prop) (dx dy d : D) (x y : V) (Q : VK), InB B H → Rep K H B dx x → Rep K H B dy y → F dx dy = some d → (∀ v H', Same H H' → Rep K H' B d v → Q v H') → r x y H Q
theorem two_of {r : R2} {F : D → D → Option D} {f g : DE} (ho : Op2 X.K r F) (σ : St) (H : Hp) (Q : VK) (h : tD X.K (d2 F f g) σ H Q) : tOp r (tD X.K f) (tD X.K g) σ H Q := by
 obtain ⟨B, δ, d, hB, S, q, k⟩ := h
 obtain ⟨dx, dy, e1, e2, e3⟩ := d2_some q
 exact ⟨B, δ, dx, hB, S, e1, fun v H1 s1 r1 => ⟨B, δ, dy, hB.mono s1, S.mono s1, e2, fun u H2 s2 r2 =>
  ho H2 B dx dy d v u Q ((hB.mono s1).mono s2) (r1.mono s2) r2 e3 fun z H' s' rz => k z H' ((s1.trans s2).trans s') rz⟩⟩
theorem pd_op {op : Operator} {r : R2} {F : D → D → Option D} {f g : DE} (ho : OpR X (binaryOp op) r) (hD : Op2 X.K r F) (ha : PD X a f) (hb : PD X b g) : PD X (.BinOp a op b pos) (d2 F f g) := (pe_op ho ha hb).imp (two_of hD)
theorem pd_cmp {op : CmpOp} {r : R2} {F : D → D → Option D} {f g : DE} (ho : OpR X (compareOp op) r) (hD : Op2 X.K r F) (ha : PD X a f) (hb : PD X b g) (hm : behindInMarks op b = false) : PD X (.Compare a [op] [b] pos) (d2 F f g) := (pe_cmpR ho ha hb hm).imp (two_of hD)
def dTest (f : DE) : DS → Option Bool := fun δ => match f δ with
 | some (.bl b) => some b
 | _ => none
theorem dTest_some {f : DE} {δ : DS} {b : Bool} (h : dTest f δ = some b) : f δ = some (.bl b) := by
 unfold dTest at h
 split at h
 ·rename_i b' e
  cases h; exact e
 ·cases h
theorem test_of {t : TE} {f : DE} (h : ∀ σ H Q, tD X.K f σ H Q → t σ H Q) (σ : St) (H : Hp) (Q : Bool → Hp → Prop) (q : tT X.K (dTest f) σ H Q) : tTest t σ H Q := by
 obtain ⟨B, δ, b, hB, S, q, k⟩ := q
 refine h σ H _ ⟨B, δ, .bl b, hB, S, dTest_some q, fun v H' s r => ?_⟩
 exact ⟨b, r, k H' s⟩
theorem pt_cmpD {op : CmpOp} {r : R2} {F : D → D → Option D} {f g : DE} (ho : OpR X (compareOp op) r) (hD : Op2 X.K r F) (ha : PD X a f) (hb : PD X b g) (hm : behindInMarks op b = false) : PTD X (.Compare a [op] [b] pos) (dTest (d2 F f g)) := (pt_cmpR ho ha hb hm).imp (test_of (two_of hD))
def dChain (F G : D → D → Option D) (f g h : DE) : DE := fun δ => (f δ).bind fun x => (g δ).bind fun y => match F x y with
 | some (.bl true) => (h δ).bind fun z => G y z
 | some (.bl false) => some (.bl false)
 | _ => none
theorem chain_of {r r' : R2} {F G : D → D → Option D} {f g h : DE} (ho : Op2 X.K r F) (ho' : Op2 X.K r' G) (σ : St) (H : Hp) (Q : VK) (q : tD X.K (dChain F G f g h) σ H Q) : tChain r r' (tD X.K f) (tD X.K g) (tD X.K h) σ H Q := by
 obtain ⟨B, δ, d, hB, S, q, k⟩ := q
 unfold dChain at q
 cases e1 : f δ with
 | none => rw [e1] at q; cases q
 | some x =>
  rw [e1] at q
  cases e2 : g δ with
  | none =>
   have q' : ((g δ).bind _) = some d := q
   rw [e2] at q'; cases q'
  | some y =>
   have q' : ((g δ).bind _) = some d := q
   rw [e2] at q'
   have q2 : (match F x y with | some (.bl true) => (h δ).bind fun z => G y z | some (.bl false) => some (.bl false) | _ => none) = some d := q'
   refine ⟨B, δ, x, hB, S, e1, fun v H1 s1 r1 => ⟨B, δ, y, hB.mono s1, S.mono s1, e2, fun u H2 s2 r2 => ?_⟩⟩
   split at q2
   ·rename_i e3
    refine ho H2 B x y _ v u _ ((hB.mono s1).mono s2) (r1.mono s2) r2 e3 fun z H3 s3 r3 => ⟨true, r3, ?_⟩
    rw [if_pos rfl]
    cases e4 : h δ with
    | none => rw [e4] at q2; cases q2
    | some w =>
     rw [e4] at q2
     have q4 : G y w = some d := q2
     refine ⟨B, δ, w, ((hB.mono s1).mono s2).mono s3, ((S.mono s1).mono s2).mono s3, e4, fun t H4 s4 r4 => ?_⟩
     exact ho' H4 B y w d u t Q ((((hB.mono s1).mono s2).mono s3).mono s4) ((r2.mono s3).mono s4) r4 q4 fun z' H' s' rz => k z' H' ((((s1.trans s2).trans s3).trans s4).trans s') rz
   ·rename_i e3
    cases q2
    refine ho H2 B x y _ v u _ ((hB.mono s1).mono s2) (r1.mono s2) r2 e3 fun z H3 s3 r3 => ⟨false, r3, ?_⟩
    rw [if_neg Bool.false_ne_true]
    exact k _ H3 ((s1.trans s2).trans s3) rfl
   ·cases q2
theorem pd_chain {op op' : CmpOp} {r r' : R2} {F G : D → D → Option D} {f g h : DE} (ho : OpR X (compareOp op) r) (ho' : OpR X (compareOp op') r') (hF : Op2 X.K r F) (hG : Op2 X.K r' G) (ha : PD X a f) (hb : PD X b g) (hc : PD X c h)
  (hm : lastMarks [op, op'] [b, c] = false := by with_unfolding_all rfl) : PD X (.Compare a [op, op'] [b, c] pos) (dChain F G f g h) := (pe_chain ho ho' ha hb hc hm).imp (chain_of hF hG)
def iop (F : Int → Int → Option D) : D → D → Option D
 | .int i, .int j => F i j
 | _, _ => none
theorem iop_some {F : Int → Int → Option D} {x y d : D} (h : iop F x y = some d) : ∃ i j, x = .int i ∧ y = .int j ∧ F i j = some d := by
 unfold iop at h
 split at h
 ·exact ⟨_, _, rfl, rfl, h⟩
 ·cases h
theorem o2_int {K : PySem.W.Frag} {C : Int → Int → Prop} [∀ i j, Decidable (C i j)] {g : Int → Int → Int} : Op2 K (rI C fun i j => .int (g i j)) (iop fun i j => if C i j then some (.int (g i j)) else none) := by
 intro H B dx dy d x y Q hB hx hy q k
 obtain ⟨i, j, rfl, rfl, q2⟩ := iop_some q
 by_cases hc : C i j
 ·rw [if_pos hc] at q2
  cases q2
  exact ⟨i, j, hx, hy, hc, k _ H (.refl H) rfl⟩
 ·rw [if_neg hc] at q2
  cases q2
theorem o2_int0 {K : PySem.W.Frag} {g : Int → Int → Int} : Op2 K (rI0 fun i j => .int (g i j)) (iop fun i j => some (.int (g i j))) := by
 intro H B dx dy d x y Q hB hx hy q k
 obtain ⟨i, j, rfl, rfl, q2⟩ := iop_some q
 cases q2
 exact ⟨i, j, hx, hy, k _ H (.refl H) rfl⟩
theorem o2_bool0 {K : PySem.W.Frag} {g : Int → Int → Bool} : Op2 K (rI0 fun i j => .bl (g i j)) (iop fun i j => some (.bl (g i j))) := by
 intro H B dx dy d x y Q hB hx hy q k
 obtain ⟨i, j, rfl, rfl, q2⟩ := iop_some q
 cases q2
 exact ⟨i, j, hx, hy, k _ H (.refl H) rfl⟩
def d1 (F : D → Option D) (f : DE) : DE := fun δ => (f δ).bind F
theorem d1_some {F : D → Option D} {f : DE} {δ : DS} {d : D} (h : d1 F f δ = some d) : ∃ x, f δ = some x ∧ F x = some d := by
 unfold d1 at h
 cases hx : f δ with
 | none => rw [hx] at h; cases h
 | some x => rw [hx] at h; exact ⟨x, rfl, h⟩
def uNeg : D → Option D
 | .int i => some (.int (-i))
 | _ => none
def truthD : D → Option Bool
 | .non => some false
 | .bl b => some b
 | .int i => some (i != 0)
 | .str x => if x.length ≤ sizeLine then some ((x.length : Int) != 0) else none
 | .lst ds => some (!ds.isEmpty)
 | .tup ds => some (!ds.isEmpty)
 | .scr ns => some (!ns.isEmpty)
 | .dct ks _ => some (!ks.isEmpty)
 | .exc _ => none
def dTruth (f : DE) : DS → Option Bool := fun δ => (f δ).bind truthD
theorem empty_eq {K : PySem.W.Frag} {H : Hp} {B : Addr → Prop} {ds : List D} {xs : List V} (h : Reps K H B ds xs) : (!ds.isEmpty) = !xs.isEmpty := by
 have := h.length
 cases ds <;> cases xs <;> simp_all
theorem truth_rep {K : PySem.W.Frag} {H : Hp} {B : Addr → Prop} {d : D} {v : V} {k : Bool} (h : Rep K H B d v) (e : truthD d = some k) : TruV K v H k := by
 cases d with
 | non => cases h; cases e; rfl
 | bl b => cases h; cases e; rfl
 | int i => cases h; cases e; rfl
 | str x =>
  cases h
  have e' : (if x.length ≤ sizeLine then some ((x.length : Int) != 0) else none) = some k := e
  by_cases hl : x.length ≤ sizeLine
  ·rw [if_pos hl] at e'
   cases e'
   exact ⟨hl, rfl⟩
  ·rw [if_neg hl] at e'
   cases e'
 | lst ds =>
  unfold Rep at h
  obtain ⟨a, xs, rfl, _, s, r⟩ := h
  cases e
  exact .inl ⟨xs, SqL.of s, empty_eq r⟩
 | tup ds =>
  unfold Rep at h
  obtain ⟨a, xs, rfl, s, r⟩ := h
  cases e
  exact .inr (.inl ⟨xs, s, empty_eq r⟩)
 | scr ns =>
  unfold Rep at h
  obtain ⟨a, rfl, s⟩ := h
  cases e
  exact .inl ⟨_, s.sq, by cases ns <;> rfl⟩
 | dct ks ds =>
  unfold Rep at h
  obtain ⟨a, kvs, rfl, _, s, q, r⟩ := h
  cases e
  refine .inr (.inr ⟨kvs, s, ?_⟩)
  rw [← q]
  cases kvs <;> rfl
 | exc _ => cases e
theorem pt_truthD {f : DE} (h : PD X a f) (he : ∀ whole, isTrue a X.env whole = (do let v ← whole; standAt a.pos; holding [v] (truthy v)) := by intro _; rfl) : PTD X a (dTruth f) := (pt_truth h he).imp fun σ H Q ⟨B, δ, k, hB, S, q, kk⟩ => by
 unfold dTruth at q
 cases e : f δ with
 | none => rw [e] at q; cases q
 | some d =>
  rw [e] at q
  exact ⟨B, δ, d, hB, S, e, fun v H' s r => ⟨k, truth_rep r q, kk H' s⟩⟩
def dAndT (f g : DS → Option Bool) : DS → Option Bool := fun δ => (f δ).bind fun c => if c = true then g δ else some false
def dOrT (f g : DS → Option Bool) : DS → Option Bool := fun δ => (f δ).bind fun c => if c = true then some true else g δ
def dNotT (f : DS → Option Bool) : DS → Option Bool := fun δ => (f δ).map (!·)
theorem pw_and1D {f : DS → Option Bool} (h : PTD X a f) : PWD X (.BoolOp .And [a] pos) f := pw_and1 h
theorem pw_or1D {f : DS → Option Bool} (h : PTD X a f) : PWD X (.BoolOp .Or [a] pos) f := pw_or1 h
theorem pw_andD {rest : List Expr} {f g : DS → Option Bool} (ha : PTD X a f) (hb : PWD X (.BoolOp .And (b :: rest) pos) g) : PWD X (.BoolOp .And (a :: b :: rest) pos) (dAndT f g) := (pw_and ha hb).imp fun σ H Q ⟨B, δ, k, hB, S, q, kk⟩ => by
 unfold dAndT at q
 cases e : f δ with
 | none => rw [e] at q; cases q
 | some c =>
  rw [e] at q
  refine ⟨B, δ, c, hB, S, e, fun H1 s1 => ?_⟩
  have q' : (if c = true then g δ else some false) = some k := q
  cases c with
  | true =>
   rw [if_pos rfl] at q'
   refine iteT ?_
   exact ⟨B, δ, k, hB.mono s1, S.mono s1, q', fun H2 s2 => kk H2 (s1.trans s2)⟩
  | false =>
   rw [if_neg Bool.false_ne_true] at q'
   refine iteF ?_
   cases q'
   exact kk H1 s1
theorem pw_orD {rest : List Expr} {f g : DS → Option Bool} (ha : PTD X a f) (hb : PWD X (.BoolOp .Or (b :: rest) pos) g) : PWD X (.BoolOp .Or (a :: b :: rest) pos) (dOrT f g) := (pw_or ha hb).imp fun σ H Q ⟨B, δ, k, hB, S, q, kk⟩ => by
 unfold dOrT at q
 cases e : f δ with
 | none => rw [e] at q; cases q
 | some c =>
  rw [e] at q
  refine ⟨B, δ, c, hB, S, e, fun H1 s1 => ?_⟩
  have q' : (if c = true then some true else g δ) = some k := q
  cases c with
  | true =>
   rw [if_pos rfl] at q'
   refine iteT ?_
   cases q'
   exact kk H1 s1
  | false =>
   rw [if_neg Bool.false_ne_true] at q'
   refine iteF ?_
   exact ⟨B, δ, k, hB.mono s1, S.mono s1, q', fun H2 s2 => kk H2 (s1.trans s2)⟩
theorem pt_notD {f : DS → Option Bool} (h : PTD X a f) : PTD X (.UnaryOp .Not a pos) (dNotT f) := (pt_not h).imp fun σ H Q ⟨B, δ, k, hB, S, q, kk⟩ => by
 unfold dNotT at q
 cases e : f δ with
 | none => rw [e] at q; cases q
 | some c =>
  rw [e] at q
  cases q
  exact ⟨B, δ, c, hB, S, e, kk⟩
def dAnd (f g : DE) : DE := fun δ => match f δ with
 | some (.bl true) => g δ
 | some (.bl false) => some (.bl false)
 | _ => none
def dOr (f g : DE) : DE := fun δ => match f δ with
 | some (.bl true) => some (.bl true)
 | some (.bl false) => g δ
 | _ => none
def uNot : D → Option D
 | .bl b => some (.bl (!b))
 | _ => none
theorem pd_one {op} {f : DE} (h : PD X a f) : PD X (.BoolOp op [a] pos) f := pe_one h
theorem pd_and {rest : List Expr} {f g : DE} (ha : PD X a f) (hb : PD X (.BoolOp .And (b :: rest) pos) g) : PD X (.BoolOp .And (a :: b :: rest) pos) (dAnd f g) := (pe_and ha hb).imp fun σ H Q ⟨B, δ, d, hB, S, q, k⟩ => by
 unfold dAnd at q
 split at q
 ·rename_i e
  refine ⟨B, δ, .bl true, hB, S, e, fun v H1 s1 r => ⟨true, r, ?_⟩⟩
  rw [if_pos rfl]
  exact ⟨B, δ, d, hB.mono s1, S.mono s1, q, fun v2 H2 s2 r2 => k v2 H2 (s1.trans s2) r2⟩
 ·rename_i e
  cases q
  refine ⟨B, δ, .bl false, hB, S, e, fun v H1 s1 r => ⟨false, r, ?_⟩⟩
  rw [if_neg Bool.false_ne_true]
  exact k _ H1 s1 rfl
 ·cases q
theorem pd_or {rest : List Expr} {f g : DE} (ha : PD X a f) (hb : PD X (.BoolOp .Or (b :: rest) pos) g) : PD X (.BoolOp .Or (a :: b :: rest) pos) (dOr f g) := (pe_or ha hb).imp fun σ H Q ⟨B, δ, d, hB, S, q, k⟩ => by
 unfold dOr at q
 split at q
 ·rename_i e
  cases q
  refine ⟨B, δ, .bl true, hB, S, e, fun v H1 s1 r => ⟨true, r, ?_⟩⟩
  rw [if_pos rfl]
  exact k _ H1 s1 rfl
 ·rename_i e
  refine ⟨B, δ, .bl false, hB, S, e, fun v H1 s1 r => ⟨false, r, ?_⟩⟩
  rw [if_neg Bool.false_ne_true]
  exact ⟨B, δ, d, hB.mono s1, S.mono s1, q, fun v2 H2 s2 r2 => k v2 H2 (s1.trans s2) r2⟩
 ·cases q
theorem pd_not {f : DE} (h : PD X a f) : PD X (.UnaryOp .Not a pos) (d1 uNot f) := (pe_not h).imp fun σ H Q ⟨B, δ, d, hB, S, q, k⟩ => by
 obtain ⟨x, e1, e2⟩ := d1_some q
 refine ⟨B, δ, x, hB, S, e1, fun v H' s r => ?_⟩
 unfold uNot at e2
 split at e2
 ·cases e2
  exact ⟨_, r, k _ H' s rfl⟩
 ·cases e2
def dArgs : List DE → DS → Option (List D)
 | [], _ => some []
 | f :: r, δ => (f δ).bind fun x => (dArgs r δ).bind fun xs => some (x :: xs)
theorem dArgs_some {f : DE} {r : List DE} {δ : DS} {ds : List D} (h : dArgs (f :: r) δ = some ds) : ∃ x xs, f δ = some x ∧ dArgs r δ = some xs ∧ ds = x :: xs := by
 unfold dArgs at h
 cases hx : f δ with
 | none => rw [hx] at h; cases h
 | some x =>
  rw [hx] at h
  have h' : ((dArgs r δ).bind fun xs => some (x :: xs)) = some ds := h
  cases hy : dArgs r δ with
  | none => rw [hy] at h'; cases h'
  | some xs =>
   rw [hy] at h'
   cases h'
   exact ⟨x, xs, rfl, rfl, rfl⟩
theorem dArgs_length : ∀ {fl : List DE} {δ : DS} {ds : List D}, dArgs fl δ = some ds → ds.length = fl.length
 | [], _, _, h => by cases h; rfl
 | f :: r, δ, ds, h => by
  obtain ⟨x, xs, _, e, rfl⟩ := dArgs_some h
  simp [dArgs_length e]
abbrev PAD (X : Cx) (es : List Expr) (fl : List DE) : Prop := PA X es (tDs X.K (dArgs fl))
theorem pad_nil : PAD X [] [] := pa_nil.imp fun σ H Q ⟨B, δ, ds, hB, S, q, k⟩ => by
 cases q
 exact k [] H (.refl H) .nil
theorem pad_cons {f : DE} {fl : List DE} (ha : PD X e f) (hr : PAD X es fl) (hs : starEach (e :: es) X.env = (false, eval e X.env) :: starEach es X.env := by rfl) : PAD X (e :: es) (f :: fl) := (pa_cons ha hr hs).imp fun σ H Q ⟨B, δ, ds, hB, S, q, k⟩ => by
 obtain ⟨x, xs, e1, e2, rfl⟩ := dArgs_some q
 exact ⟨B, δ, x, hB, S, e1, fun v H1 s1 r1 => ⟨B, δ, xs, hB.mono s1, S.mono s1, e2, fun vs H2 s2 r2 => k (v :: vs) H2 (s1.trans s2) (.cons (r1.mono s2) r2)⟩⟩
theorem pf_list {fl : List DE} (h : PAD X es fl) (hl : fl.length ≤ 1000 := by decide) : PF X (.List es pos) (dArgs fl) := (pe_lst h).imp fun σ H Q ⟨B, δ, ds, hB, S, q, k⟩ => by
 refine ⟨B, δ, ds, hB, S, q, fun vs H1 s1 r1 => ⟨?_, fun p hp => ?_⟩⟩
 ·rw [← r1.length, dArgs_length q]
  exact Nat.le_of_lt (small1000 hl)
 ·exact k p vs _ (s1.trans (same_upd hp)) (s1.free hp) upd_same (r1.mono (same_upd hp))
def mkT (f : DS → Option (List D)) : DE := fun δ => (f δ).map .tup
theorem pd_tup {x1} {fl : List DE} (h : PAD X es fl) (hl : fl.length ≤ 1000 := by decide) : PD X (.Tuple es x1 pos) (mkT (dArgs fl)) := (pe_tup h).imp fun σ H Q ⟨B, δ, d, hB, S, q, k⟩ => by
 unfold mkT at q
 cases r : dArgs fl δ with
 | none => rw [r] at q; cases q
 | some ds =>
  rw [r] at q
  cases q
  refine ⟨B, δ, ds, hB, S, r, fun vs H1 s1 r1 => ⟨?_, fun p hp => ?_⟩⟩
  ·rw [← r1.length, dArgs_length r]
   exact Nat.le_of_lt (small1000 hl)
  ·refine k _ _ (s1.trans (same_upd hp)) ?_
   unfold Rep
   exact ⟨p, vs, rfl, SqT.of upd_same, r1.mono (same_upd hp)⟩
def ixD : D → D → Option D
 | .lst ds, .int i => atI ds i
 | .tup ds, .int i => atI ds i
 | .scr ns, .int i => (atI ns i).map .int
 | _, _ => none
theorem atI_map {α β : Type} (f : α → β) (xs : List α) (i : Int) : atI (xs.map f) i = (atI xs i).map f := by
 unfold atI
 rw [List.length_map]
 cases ixN xs.length i with
 | none => rfl
 | some j => simp
theorem atI_reps {K : PySem.W.Frag} {H : Hp} {B : Addr → Prop} {ds : List D} {xs : List V} {i : Int} {d : D} (h : Reps K H B ds xs) (e : atI ds i = some d) : ∃ x, atI xs i = some x ∧ Rep K H B d x := by
 unfold atI at e ⊢
 rw [← h.length]
 cases q : ixN ds.length i with
 | none => rw [q] at e; cases e
 | some j =>
  rw [q] at e
  exact h.get e
theorem o2_ix {K : PySem.W.Frag} : Op2 K (rIx K) ixD := by
 intro H B dx dy d x y Q hB hx hy q k
 unfold ixD at q
 split at q
 ·unfold Rep at hx
  obtain ⟨a, xs, rfl, _, s, r⟩ := hx
  obtain ⟨v, e, rv⟩ := atI_reps r q
  exact .inl ⟨a, xs, _, v, rfl, hy, SqL.of s, e, k v H (.refl H) rv⟩
 ·unfold Rep at hx
  obtain ⟨a, xs, rfl, s, r⟩ := hx
  obtain ⟨v, e, rv⟩ := atI_reps r q
  exact .inr (.inl ⟨a, xs, _, v, rfl, hy, s, e, k v H (.refl H) rv⟩)
 ·rename_i ns i
  unfold Rep at hx
  obtain ⟨a, rfl, s⟩ := hx
  cases e : atI ns i with
  | none => rw [e] at q; cases q
  | some n =>
   rw [e] at q
   cases q
   exact .inl ⟨a, _, _, .int n, rfl, hy, s.sq, by rw [atI_map, e]; rfl, k _ H (.refl H) rfl⟩
 ·cases q
theorem pd_ix {f g : DE} (ha : PD X a f) (hb : PD X b g) (hs : PlainIx b := by intro _ _; rfl) : PD X (.Subscript a b pos) (d2 ixD f g) := (pe_ix ix_seq ha hb hs).imp (two_of o2_ix)
def spR (K : PySem.W.Frag) (F : List D → Option D) : Sp := fun vs H Q _ => ∃ B ds d, InB B H ∧ Reps K H B ds vs ∧ F ds = some d ∧ ∀ v H', Same H H' → Rep K H' B d v → Q v H'
def spN (K : PySem.W.Frag) (F : List D → Option D) : Sp := fun vs H Q _ => ∃ ds d, Reps K H noB ds vs ∧ F ds = some d ∧ ∀ v H' A, Same H H' → Tree K H' d v A → A.Nodup → (∀ a ∈ A, H a = none) → Q v H'
structure DefOk (P : Program) (w : World) (K : PySem.W.Frag) (mg : Str → Option Value) (base : Heap) (k : Nat) (x : Str) (sp : Sp) : Prop where
 ok : ∃ (f : Addr) (fd : FuncData) (ps : List Str), mg x = some (.ref f) ∧ PySem.W.keepIn K (.ref f) = true ∧ Binds K fd ps [] ∧ FnOk P w K mg base CX0 k f fd ps sp
def dCall (F : List D → Option D) (fl : List DE) : DE := fun δ => (dArgs fl δ).bind F
theorem dCall_some {F : List D → Option D} {fl : List DE} {δ : DS} {d : D} (h : dCall F fl δ = some d) : ∃ ds, dArgs fl δ = some ds ∧ F ds = some d := by
 unfold dCall at h
 cases q : dArgs fl δ with
 | none => rw [q] at h; cases h
 | some ds => rw [q] at h; exact ⟨ds, rfl, h⟩
end
end L2
namespace L2
open PySem PySem.Spec PyProof.Rows
section
variable {X : Cx} {e a b c : Expr} {es : List Expr} {pos p : Pos} {x : Str} {k : Nat} {tg iter elt : Expr}
theorem pe_callD {sp : Sp} {t : TA} (G : DefOk X.prog X.w X.K X.mg X.base k x sp) (hr : Room k X.A) (hg : Gl X x) (ha : PA X (e :: es) t) (hdb : (x == ("__debug__" : Str)) = false := by decide)
  (he : starEach (e :: es) X.env = (false, eval e X.env) :: starEach es X.env := by rfl) (hpl : (backTo pos (starEach es X.env)).any (·.1) = false := by rfl) : PE X (.Call (.Name x p) (e :: es) [] pos) (tCall sp [] E0 t) := by
 obtain ⟨f, fd, ps, hm, hk, hb, ok⟩ := G.ok
 exact pe_call ok hr hg hm hk hb .nil pass0 ha hdb he hpl
theorem pd_callR {F : List D → Option D} {fl : List DE} (G : DefOk X.prog X.w X.K X.mg X.base k x (spR X.K F)) (hr : Room k X.A) (hg : Gl X x) (ha : PAD X (e :: es) fl) (hdb : (x == ("__debug__" : Str)) = false := by decide)
  (he : starEach (e :: es) X.env = (false, eval e X.env) :: starEach es X.env := by rfl) (hpl : (backTo pos (starEach es X.env)).any (·.1) = false := by rfl) : PD X (.Call (.Name x p) (e :: es) [] pos) (dCall F fl) :=
 (pe_callD G hr hg ha hdb he hpl).imp fun σ H Q ⟨B, δ, d, hB, S, q, k⟩ => by
  obtain ⟨ds, e1, e2⟩ := dCall_some q
  refine ⟨B, δ, ds, hB, S, e1, fun vs H1 s1 r1 => ?_⟩
  show spR X.K F (vs ++ []) H1 Q E0
  rw [List.append_nil]
  exact ⟨B, ds, d, hB.mono s1, r1, e2, fun v H' s' r => k v H' (s1.trans s') r⟩
theorem pn_callN {F : List D → Option D} {fl : List DE} (G : DefOk X.prog X.w X.K X.mg X.base k x (spN X.K F)) (hr : Room k X.A) (hg : Gl X x) (ha : PAD X (e :: es) fl) (hdb : (x == ("__debug__" : Str)) = false := by decide)
  (he : starEach (e :: es) X.env = (false, eval e X.env) :: starEach es X.env := by rfl) (hpl : (backTo pos (starEach es X.env)).any (·.1) = false := by rfl) : PN X (.Call (.Name x p) (e :: es) [] pos) (dCall F fl) :=
 (pe_callD G hr hg ha hdb he hpl).imp fun σ H Q ⟨δ, d, S, q, k⟩ => by
  obtain ⟨ds, e1, e2⟩ := dCall_some q
  refine ⟨noB, δ, ds, .no, S, e1, fun vs H1 s1 r1 => ?_⟩
  show spN X.K F (vs ++ []) H1 Q E0
  rw [List.append_nil]
  exact ⟨ds, d, r1, e2, fun v H' A s' t nd fr => k v H' A (s1.trans s') t nd fun a ha => s1.free (fr a ha)⟩
structure ItD (K : PySem.W.Frag) (J : It) (H : Hp) (B : Addr → Prop) (ds : List D) : Prop where
 go : ∀ i H', Keep K B H H' → i < ds.length → J.go i H'
 stop : ∀ i H', Keep K B H H' → ds.length ≤ i → J.stop i H'
 yld : ∀ i H' x H2, Keep K B H H' → J.yld i H' x H2 → Same H' H2 ∧ ∃ d, (i < ds.length → ds[i]? = some d) ∧ Rep K H2 B d x
def ItW (K : PySem.W.Frag) (J : It) (H : Hp) (B : Addr → Prop) (ds : List D) : Prop := ∀ C : Addr → Prop, (∀ a, C a → H a = none) → ItD K J H (fun a => B a ∨ C a) ds
def tI (K : PySem.W.Frag) (f : DS → Option (List D)) : TI := fun σ H R => ∃ B δ ds, InB B H ∧ RepS K H B σ δ ∧ f δ = some ds ∧ ∀ J H', Same H H' → ItW K J H' B ds → R J H'
abbrev PID (X : Cx) (tg iter : Expr) (f : DS → Option (List D)) : Prop := PI X tg iter (tI X.K f)
theorem PI.imp {wi wi' : TI} (h : PI X tg iter wi) (w : ∀ σ H R, wi' σ H R → wi σ H R) : PI X tg iter wi' := fun pins s σ H R I q => h pins s σ H R I (w σ H R q)
def iSeq (K : PySem.W.Frag) (tl : TE) : TI := fun σ H R => tl σ H fun x H1 => ∃ a, x = .ref a ∧ (((∃ xs, SqL K H1 a xs) ∧ R (Itl K a) H1) ∨ ((∃ xs, SqT K H1 a xs) ∧ R (Itt K a) H1))
theorem pi_seq {l : Expr} {tl : TE} (hl : PE X l tl) : PI X tg l (iSeq X.K tl) := by
 intro pins s σ H R I h
 refine thn (hl pins s σ H _ I h) fun v s1 ⟨x, H1, I1, r1, q1⟩ => ?_
 obtain ⟨a, e, q1⟩ := q1
 subst e
 cases r1
 have fp : ∀ b ∈ [s1.heap.objs.size], FpOk X pins H1 b := fun b hb => by
  have e : b = s1.heap.objs.size := by simpa using hb
  subst e
  exact I1.fpOk (Nat.le_refl _) (I1.hok.fresh (Nat.le_refl _))
 rcases q1 with ⟨⟨xs, hq⟩, q⟩ | ⟨⟨xs, hq⟩, q⟩
 ·obtain ⟨its, rv, p, hz⟩ := I1.list hq
  refine wpAny_pyIter_list p.isList ?_
  exact ⟨s1.heap.objs.size, [s1.heap.objs.size], _, _, H1, rfl, I1.kept (t' := s1.toks) fun b o e => Heap.get?_push_of_some _ e, turn_list a _, ⟨_, Heap.get?_push_size _ rfl, rfl, rfl⟩, fp, q⟩
 ·obtain ⟨its, rv, p, hz⟩ := I1.tuple hq
  refine wpAny_pyIter_tuple (show s1.heap.IsTuple a its.toArray from p) ?_
  exact ⟨s1.heap.objs.size, [s1.heap.objs.size], _, _, H1, rfl, I1.kept (t' := s1.toks) fun b o e => Heap.get?_push_of_some _ e, turn_tuple a _, ⟨_, Heap.get?_push_size _ rfl, rfl, rfl⟩, fp, q⟩
def seqD : D → Option (List D)
 | .lst ds => some ds
 | .tup ds => some ds
 | .scr ns => some (ns.map .int)
 | _ => none
def dSeq (f : DE) : DS → Option (List D) := fun δ => (f δ).bind seqD
theorem itd_list {K : PySem.W.Frag} {H : Hp} {B : Addr → Prop} {a : Addr} {xs : List V} {ds : List D} (n : ¬ B a) (h : H a = some (.lst xs)) (r : Reps K H B ds xs) : ItD K (Itl K a) H B ds := by
 have hl := r.length
 refine ⟨fun i H' kp hi => ?_, fun i H' kp hi => ?_, fun i H' x H2 kp y => ?_⟩
 ·exact ⟨xs, xs[i], SqL.of (kp.sl a xs n h), by rw [List.getElem?_eq_getElem]⟩
 ·exact ⟨xs, SqL.of (kp.sl a xs n h), by omega⟩
 ·obtain ⟨e, y⟩ := y
  subst e
  have hx := y xs (SqL.of (kp.sl a xs n h))
  obtain ⟨d, e, rd⟩ := (Reps.keep kp ds r).get' hx
  exact ⟨.refl _, d, fun _ => e, rd⟩
theorem itd_tup {K : PySem.W.Frag} {H : Hp} {B : Addr → Prop} {a : Addr} {xs : List V} {ds : List D} (h : SqT K H a xs) (r : Reps K H B ds xs) : ItD K (Itt K a) H B ds := by
 have hl := r.length
 refine ⟨fun i H' kp hi => ?_, fun i H' kp hi => ?_, fun i H' x H2 kp y => ?_⟩
 ·exact ⟨xs, xs[i], kp.st a xs h, by rw [List.getElem?_eq_getElem]⟩
 ·exact ⟨xs, kp.st a xs h, by omega⟩
 ·obtain ⟨e, y⟩ := y
  subst e
  have hx := y xs (kp.st a xs h)
  obtain ⟨d, e, rd⟩ := (Reps.keep kp ds r).get' hx
  exact ⟨.refl _, d, fun _ => e, rd⟩
theorem reps_ints {K : PySem.W.Frag} {H : Hp} {B : Addr → Prop} : ∀ ns : List Int, Reps K H B (ns.map D.int) (ns.map V.int)
 | [] => .nil
 | n :: ns => .cons rfl (reps_ints ns)
theorem itd_scr {K : PySem.W.Frag} {H : Hp} {B : Addr → Prop} {a : Addr} {ns : List Int} (h : SqF K H a (ns.map V.int)) : ItD K (Itl K a) H B (ns.map D.int) := by
 have r : ∀ H', Reps K H' B (ns.map D.int) (ns.map V.int) := fun _ => reps_ints ns
 refine ⟨fun i H' kp hi => ?_, fun i H' kp hi => ?_, fun i H' x H2 kp y => ?_⟩
 ·exact ⟨ns.map V.int, (ns.map V.int)[i]'(by simpa using hi), (kp.sf a _ h).sq, by rw [List.getElem?_eq_getElem]⟩
 ·exact ⟨ns.map V.int, (kp.sf a _ h).sq, by simpa using hi⟩
 ·obtain ⟨e, y⟩ := y
  subst e
  have hx := y _ (kp.sf a _ h).sq
  obtain ⟨d, e, rd⟩ := (r _).get' hx
  exact ⟨.refl _, d, fun _ => e, rd⟩
theorem pi_seqD {l : Expr} {f : DE} (h : PD X l f) : PID X tg l (dSeq f) := (pi_seq h).imp fun σ H R ⟨B, δ, ds, hB, S, q, k⟩ => by
 unfold dSeq at q
 cases e : f δ with
 | none => rw [e] at q; cases q
 | some d =>
  rw [e] at q
  have q' : seqD d = some ds := q
  refine ⟨B, δ, d, hB, S, e, fun v H1 s1 r1 => ?_⟩
  unfold seqD at q'
  split at q'
  ·cases q'
   unfold Rep at r1
   obtain ⟨a, xs, rfl, n, h, r⟩ := r1
   exact ⟨a, rfl, .inl ⟨⟨xs, SqL.of h⟩, k _ H1 s1 fun C hC => itd_list (fun z => z.elim n fun z => by rw [hC a z] at h; cases h) h (Reps.wide hC _ r)⟩⟩
  ·cases q'
   unfold Rep at r1
   obtain ⟨a, xs, rfl, h, r⟩ := r1
   exact ⟨a, rfl, .inr ⟨⟨xs, h⟩, k _ H1 s1 fun C hC => itd_tup h (Reps.wide hC _ r)⟩⟩
  ·cases q'
   unfold Rep at r1
   obtain ⟨a, rfl, h⟩ := r1
   exact ⟨a, rfl, .inl ⟨⟨_, h.sq⟩, k _ H1 s1 fun C hC => itd_scr h⟩⟩
  ·cases q'
def rngL (lo : Int) (n : Nat) : List D := (List.range n).map fun i => .int (lo + (i : Nat))
theorem rngL_get {lo : Int} {n i : Nat} (h : i < n) : (rngL lo n)[i]? = some (.int (lo + i)) := by
 unfold rngL
 rw [List.getElem?_map, List.getElem?_range h]
 rfl
theorem rngL_length (lo : Int) (n : Nat) : (rngL lo n).length = n := by unfold rngL; rw [List.length_map, List.length_range]
theorem itd_rng {K : PySem.W.Frag} {H : Hp} {B : Addr → Prop} {lo : Int} {n : Nat} : ItD K (Itr lo n) H B (rngL lo n) := by
 refine ⟨fun i H' _ hi => ?_, fun i H' _ hi => ?_, fun i H' x H2 _ y => ?_⟩
 ·rw [rngL_length] at hi; exact hi
 ·rw [rngL_length] at hi; exact hi
 ·obtain ⟨e, y⟩ := y
  subst e y
  exact ⟨.refl _, .int (lo + i), fun h => rngL_get (by rwa [rngL_length] at h), rfl⟩
def dRng1 (f : DE) : DS → Option (List D) := fun δ => match f δ with
 | some (.int j) => if -(2 ^ 62) ≤ j ∧ j < 2 ^ 62 then some (rngL 0 j.toNat) else none
 | _ => none
def dRng2 (f g : DE) : DS → Option (List D) := fun δ => match f δ, g δ with
 | some (.int i), some (.int j) => if -(2 ^ 62) ≤ i ∧ i < 2 ^ 62 ∧ -(2 ^ 62) ≤ j ∧ j < 2 ^ 62 then some (rngL i (j - i).toNat) else none
 | _, _ => none
theorem pi_rng1 {f : DE} (hg : Gl X "range") (hm : X.mg "range" = none) (ha : PD X a f) (hs : starEach [a] X.env = [(false, eval a X.env)] := by rfl) : PID X tg (.Call (.Name "range" p) [a] [] pos) (dRng1 f) :=
 (pi_range1 hg hm (pad_cons ha pad_nil hs) hs).imp fun σ H R ⟨B, δ, ds, hB, S, q, k⟩ => by
  unfold dRng1 at q
  split at q
  ·rename_i j e
   split at q
   ·rename_i hj
    cases q
    have ea : dArgs [f] δ = some [.int j] := by unfold dArgs; rw [e]; rfl
    refine ⟨B, δ, [.int j], hB, S, ea, fun vs H1 s1 r1 => ?_⟩
    unfold Reps at r1
    obtain ⟨x, r, rfl, rx, rr⟩ := r1
    unfold Reps at rr
    subst rr
    exact ⟨j, by rw [show x = V.int j from rx], hj.1, hj.2, k _ H1 s1 fun C _ => itd_rng⟩
   ·cases q
  ·cases q
theorem pi_rng2 {f g : DE} (hg : Gl X "range") (hm : X.mg "range" = none) (ha : PD X a f) (hb : PD X b g) (hs : starEach [a, b] X.env = [(false, eval a X.env), (false, eval b X.env)] := by rfl) (hs2 : starEach [b] X.env = [(false, eval b X.env)] := by rfl) :
  PID X tg (.Call (.Name "range" p) [a, b] [] pos) (dRng2 f g) :=
 (pi_range2 hg hm (pad_cons ha (pad_cons hb pad_nil hs2) (by rw [hs, hs2])) hs hs2).imp fun σ H R ⟨B, δ, ds, hB, S, q, k⟩ => by
  unfold dRng2 at q
  split at q
  ·rename_i i j e e'
   split at q
   ·rename_i hj
    cases q
    have ea : dArgs [f, g] δ = some [.int i, .int j] := by unfold dArgs dArgs; rw [e, e']; rfl
    refine ⟨B, δ, [.int i, .int j], hB, S, ea, fun vs H1 s1 r1 => ?_⟩
    unfold Reps at r1
    obtain ⟨x, r, rfl, rx, rr⟩ := r1
    unfold Reps at rr
    obtain ⟨y, r', rfl, ry, rr⟩ := rr
    unfold Reps at rr
    subst rr
    exact ⟨i, j, by rw [show x = V.int i from rx, show y = V.int j from ry], hj, k _ H1 s1 fun C _ => itd_rng⟩
   ·cases q
  ·cases q
def consO : Option D → List D → List D
 | some y, ys => y :: ys
 | none, ys => ys
def compL (h : D → Option (Option D)) : List D → Option (List D)
 | [] => some []
 | x :: r => (h x).bind fun o => (compL h r).bind fun ys => some (consO o ys)
theorem compL_cons {h : D → Option (Option D)} {x : D} {r ds : List D} (e : compL h (x :: r) = some ds) : ∃ o ys, h x = some o ∧ compL h r = some ys ∧ ds = consO o ys := by
 unfold compL at e
 cases q : h x with
 | none => rw [q] at e; cases e
 | some o =>
  rw [q] at e
  have e' : ((compL h r).bind fun ys => some (consO o ys)) = some ds := e
  cases q' : compL h r with
  | none => rw [q'] at e'; cases e'
  | some ys =>
   rw [q'] at e'
   exact ⟨o, ys, rfl, rfl, (Option.some.inj e').symm⟩
def dComp (fi : DS → Option (List D)) (fc : DS → Option Bool) (fe : DE) : DS → Option (List D) := fun δ => (fi δ).bind fun xs => if xs.length ≤ sizeLine then
 compL (fun x => (fc (δ ++ [some x])).bind fun k => if k = true then (fe (δ ++ [some x])).map some else some none) xs else none
def dYes : DS → Option Bool := fun _ => some true
theorem pifs_nilD {X : Cx} : PIfs X [] (tT X.K dYes) := fun pins s σ H Q I ⟨B, δ, b, hB, S, q, k⟩ => pifs_nil pins s σ H Q I (by cases q; exact k H (.refl H))
theorem pifs_oneD {X : Cx} {c : Expr} {f : DS → Option Bool} (h : PTD X c f) : PIfs X [c] (tT X.K f) := pifs_one h
theorem RepS.snoc {K : PySem.W.Frag} {H : Hp} {B : Addr → Prop} {σ : St} {δ : DS} {d : D} {v : V} (S : RepS K H B σ δ) (r : Rep K H B d v) : RepS K H B (σ ++ [some v]) (δ ++ [some d]) := by
 refine ⟨by simp [S.len], fun i d' e => ?_⟩
 by_cases hi : i < δ.length
 ·rw [List.getElem?_append_left hi] at e
  obtain ⟨w, e', r'⟩ := S.get i d' e
  exact ⟨w, by rw [List.getElem?_append_left (by rw [← S.len]; exact hi)]; exact e', r'⟩
 ·by_cases hj : i = δ.length
  ·subst hj
   rw [List.getElem?_append_right (Nat.le_refl _), Nat.sub_self] at e
   cases e
   refine ⟨v, ?_, r⟩
   rw [S.len, List.getElem?_append_right (Nat.le_refl _), Nat.sub_self]
   rfl
  ·rw [List.getElem?_eq_none (by simp; omega)] at e
   cases e
theorem RepS.wide {K : PySem.W.Frag} {H : Hp} {B C : Addr → Prop} {σ : St} {δ : DS} (h : RepS K H B σ δ) (hc : ∀ a, C a → H a = none) : RepS K H (fun a => B a ∨ C a) σ δ :=
 ⟨h.len, fun i d q => let ⟨v, a, r⟩ := h.get i d q; ⟨v, a, Rep.wide hc d r⟩⟩
theorem set_snoc {w v : Option V} : ∀ {σ : St}, (σ ++ [w]).set σ.length v = σ ++ [v]
 | [] => rfl
 | x :: r => congrArg (x :: ·) (set_snoc (σ := r))
variable {N' : List Str} {sc : Scope} {ifs : List Expr} {n : Nat} {px : Pos} {fi : DS → Option (List D)} {fc : DS → Option Bool} {fe : DE}
theorem comp_ofF {σ : St} {H : Hp} {Q : VK} (hσ : σ.length = n) (hq : tF X.K (dComp fi fc fe) σ H Q) : tComp (tI X.K fi) (gName n) (tT X.K fc) (tD X.K fe) 1 σ H Q := by
 obtain ⟨B, δ, ds, hB, Sδ, q, k⟩ := hq
 unfold dComp at q
 cases e1 : fi δ with
 | none => rw [e1] at q; cases q
 | some xs =>
 rw [e1] at q
 have q1 : (if xs.length ≤ sizeLine then compL (fun x => (fc (δ ++ [some x])).bind fun k => if k = true then (fe (δ ++ [some x])).map some else some none) xs else none) = some ds := q
 split at q1
 case isFalse => cases q1
 case isTrue hsz =>
 refine ⟨B, δ, xs, hB, Sδ, e1, fun J H1 s1 itw => fun Da hD => ?_⟩
 have hD0 : H Da = none := s1.free hD
 have it := itw (fun a => a = Da) fun a ha => by rw [ha]; exact hD
 have Sw : RepS X.K H1 (fun a => B a ∨ a = Da) σ δ := (Sδ.mono s1).wide fun a ha => by rw [ha]; exact hD
 refine ⟨fun i m σ' H' => m = xs.length - i ∧ i ≤ xs.length ∧ (∃ w, σ' = σ ++ [w]) ∧ Same H1 H' ∧ ∃ ys dn rs, H' Da = some (.lst ys) ∧ Reps X.K H' (fun a => B a ∨ a = Da) dn ys ∧ ds = dn ++ rs ∧ dn.length ≤ i ∧
  compL (fun x => (fc (δ ++ [some x])).bind fun k => if k = true then (fe (δ ++ [some x])).map some else some none) (xs.drop i) = some rs,
  ⟨xs.length, by simp, Nat.zero_le _, ⟨none, rfl⟩, same_upd hD, [], [], ds, upd_same, .nil, rfl, Nat.le_refl _, q1⟩, ?_⟩
 rintro i m σ' H' ⟨rfl, hi', ⟨w, rfl⟩, sm, ys, dn, rs, hys, rys, hds, hln, hrs⟩
 have kp : Keep X.K (fun a => B a ∨ a = Da) H1 H' := .same sm
 by_cases hlt : i < xs.length
 ·refine .inr ⟨it.go i H' kp hlt, fun σ'' H'' => (i + 1 ≤ xs.length ∧ (∃ w, σ'' = σ ++ [w]) ∧ Same H1 H'' ∧ ∃ ys dn rs, H'' Da = some (.lst ys) ∧ Reps X.K H'' (fun a => B a ∨ a = Da) dn ys ∧ ds = dn ++ rs ∧ dn.length ≤ i + 1 ∧
   compL (fun x => (fc (δ ++ [some x])).bind fun k => if k = true then (fe (δ ++ [some x])).map some else some none) (xs.drop (i + 1)) = some rs), fun σ'' H'' h => ⟨xs.length - (i + 1), by omega, rfl, h⟩, fun xv H2 hy => ?_⟩
  obtain ⟨s2, d, hd, rd⟩ := it.yld i H' xv H2 kp hy
  have hdi := hd hlt
  have hx : xs.drop i = d :: xs.drop (i + 1) := by
   obtain ⟨hl, e⟩ := List.getElem?_eq_some_iff.mp hdi
   rw [List.drop_eq_getElem_cons hl, e]
  rw [hx] at hrs
  obtain ⟨o, rs', e2, e3, e4⟩ := compL_cons hrs
  show tT X.K fc ((σ ++ [w]).set n (some xv)) H2 _
  rw [← hσ, set_snoc]
  have hB1 : InB (fun a => B a ∨ a = Da) H2 := fun a ha => ha.elim (fun z => (((hB.mono s1).mono sm).mono s2) a z) fun z => ⟨_, s2 _ _ (z ▸ hys)⟩
  have S2 : RepS X.K H2 (fun a => B a ∨ a = Da) (σ ++ [some xv]) (δ ++ [some d]) := ((Sw.mono sm).mono s2).snoc rd
  have hl2 : ys.length < sizeLine := by
   have := rys.length
   omega
  cases ec : fc (δ ++ [some d]) with
  | none => rw [ec] at e2; cases e2
  | some kk =>
   rw [ec] at e2
   have e2' : (if kk = true then (fe (δ ++ [some d])).map some else some none) = some o := e2
   refine ⟨_, δ ++ [some d], kk, hB1, S2, ec, fun H3 s3 => ?_⟩
   cases kk with
   | false =>
    rw [if_neg Bool.false_ne_true] at e2'
    rw [if_neg Bool.false_ne_true]
    cases e2'
    exact ⟨hlt, ⟨_, rfl⟩, (sm.trans s2).trans s3, ys, dn, rs', s3 _ _ (s2 _ _ hys), (rys.mono s2).mono s3, by rw [hds, e4]; rfl, Nat.le_succ_of_le hln, e3⟩
   | true =>
    rw [if_pos rfl] at e2'
    rw [if_pos rfl]
    cases ey : fe (δ ++ [some d]) with
    | none => rw [ey] at e2'; cases e2'
    | some y =>
     rw [ey] at e2'
     cases e2'
     refine ⟨_, δ ++ [some d], y, hB1.mono s3, S2.mono s3, ey, fun yv H5 s5 r5 => ⟨ys, s5 _ _ (s3 _ _ (s2 _ _ hys)), hl2, ?_⟩⟩
     have hu : H5 Da = some (.lst ys) := s5 _ _ (s3 _ _ (s2 _ _ hys))
     refine ⟨hlt, ⟨_, rfl⟩, fun b u hb => ?_, ys ++ [yv], dn ++ [y], rs', upd_same, ?_, by rw [hds, e4, List.append_assoc]; rfl, by rw [List.length_append]; simp; omega, e3⟩
     ·rw [upd_ne (ne_of_none hb hD)]
      exact s5 _ _ (s3 _ _ (s2 _ _ (sm _ _ hb)))
     ·exact Reps.keep (.upd (.inr rfl) (by rw [hu]; exact trivial)) _ (((rys.mono s2).mono s3 |>.mono s5).snoc r5)
 ·have e : i = xs.length := by omega
  subst e
  refine .inl ⟨it.stop _ H' kp (Nat.le_refl _), ?_⟩
  rw [List.drop_length] at hrs
  cases hrs
  rw [List.append_nil] at hds
  subst hds
  exact k Da ys H' (s1.trans sm) hD0 hys (rys.anti fun a z => .inl z)
theorem pf_comp (hc : X.calm = true) (S : CompScope X.N X.env.scope.names N' 1 sc) (hn : n = X.N.length) (hi : PID X (.Name x px) iter fi)
  (hg : ∀ s H fp pins E, PG (cxComp X N' sc s H fp pins E) (.Name x px) (gName n)) (ht : ∀ s H fp pins E, PIfs (cxComp X N' sc s H fp pins E) ifs (tT X.K fc)) (he : ∀ s H fp pins E, PE (cxComp X N' sc s H fp pins E) elt (tD X.K fe))
  (hs : ∀ x, foldedSetIterable iter X.env x = pure x := by intro _; rfl) : PF X (.ListComp elt [⟨.Name x px, iter, ifs, 0⟩] sc pos) (dComp fi fc fe) := by
 intro pins s σ H Q I hq
 exact pe_comp hc S hi ⟨hg, ht, he⟩ hs pins s σ H Q I (comp_ofF (by rw [hn, I.len]) hq)
theorem pas_cF {i : Nat} {y : Str} {py spos : Pos} (hN : X.N.Nodup) (hy : X.N[i]? = some y) (hyl : X.env.scope.names.lookup y = some .local) (hc : X.calm = true) (S : CompScope X.N X.env.scope.names N' 1 sc) (hn : n = X.N.length) (hi : PID X (.Name x px) iter fi)
  (hg : ∀ s H fp pins E, PG (cxComp X N' sc s H fp pins E) (.Name x px) (gName n)) (ht : ∀ s H fp pins E, PIfs (cxComp X N' sc s H fp pins E) ifs (tT X.K fc)) (he : ∀ s H fp pins E, PE (cxComp X N' sc s H fp pins E) elt (tD X.K fe))
  (hsw : swapsWith (.ListComp elt [⟨.Name x px, iter, ifs, 0⟩] sc pos) (some (.Name y py)) spos.line X.env = pure true := by rfl) (hs : ∀ x, foldedSetIterable iter X.env x = pure x := by intro _; rfl) :
  PS X (.Assign [.Name y py] (.ListComp elt [⟨.Name x px, iter, ifs, 0⟩] sc pos) spos) (tAsg (tF X.K (dComp fi fc fe)) (gName i)) := by
 intro pins s σ H D I hq
 exact ps_setc hc S hN hy hyl hi ⟨hg, ht, he⟩ hsw hs pins s σ H D I (comp_ofF (by rw [hn, I.len]) hq)
end
end L2
namespace L2
open PySem PySem.Spec PyProof.Rows
inductive SD where
 | sh (d : D) | ow (d : D) | bo (r : Nat) (d : D)
abbrev SS := List (Option SD)
def SD.val : SD → D
 | .sh d => d
 | .ow d => d
 | .bo _ d => d
def allV (δ : SS) : DS := δ.map (Option.map SD.val)
def shO : Option SD → Option D
 | some (.sh d) => some d
 | _ => none
def shV (δ : SS) : DS := δ.map shO
structure RS (K : PySem.W.Frag) (H0 : Hp) (B0 : Addr → Prop) (H : Hp) (σ : St) (δ : SS) (R : Nat → List Addr) : Prop where
 keep : Same H0 H
 inB : InB B0 H0
 len : δ.length = σ.length
 new : ∀ r a, a ∈ R r → H0 a = none
 held : ∀ r a, a ∈ R r → ∃ o, H a = some o ∧ Mut (some o)
 disj : ∀ r s a, a ∈ R r → a ∈ R s → r = s
 sh : ∀ (i : Nat) (d : D), δ[i]? = some (some (.sh d)) → ∃ v, σ[i]? = some (some v) ∧ Rep K H (fun a => B0 a ∨ ∃ r, a ∈ R r) d v
 bo : ∀ (i r : Nat) (d : D), δ[i]? = some (some (.bo r d)) → ∃ v, σ[i]? = some (some v) ∧ Rep K H (fun a => B0 a ∨ ∃ s, s ≠ r ∧ a ∈ R s) d v
 ow : ∀ (i : Nat) (d : D), δ[i]? = some (some (.ow d)) → ∃ v, σ[i]? = some (some v) ∧ Tree K H d v (R i) ∧ (R i).Nodup
structure Stp (R : Nat → List Addr) (H : Hp) (R' : Nat → List Addr) (H' : Hp) : Prop where
 keep : ∀ a o, H a = some o → (∀ r, a ∉ R r) → H' a = some o
 from' : ∀ r a, a ∈ R' r → (∃ s, a ∈ R s) ∨ H a = none
 there : ∀ a, H' a = none → H a = none
theorem Stp.refl (R : Nat → List Addr) (H : Hp) : Stp R H R H := ⟨fun _ _ h _ => h, fun r _ h => .inl ⟨r, h⟩, fun _ h => h⟩
theorem Stp.trans {R R1 R2 : Nat → List Addr} {H H1 H2 : Hp} (a : Stp R H R1 H1) (b : Stp R1 H1 R2 H2) : Stp R H R2 H2 := by
 refine ⟨fun x o h n => b.keep x o (a.keep x o h n) fun r hr => ?_, fun r x h => ?_, fun x h => a.there x (b.there x h)⟩
 ·rcases a.from' r x hr with ⟨s, z⟩ | z
  ·exact n s z
  ·rw [h] at z; cases z
 ·rcases b.from' r x h with ⟨s, z⟩ | z
  ·exact a.from' s x z
  ·exact .inr (a.there x z)
theorem Stp.same {R : Nat → List Addr} {H H' : Hp} (e : Same H H') : Stp R H R H' := ⟨fun a o h _ => e a o h, fun r _ h => .inl ⟨r, h⟩, fun _ h => e.free h⟩
section
variable {K : PySem.W.Frag} {H0 H H' : Hp} {B0 : Addr → Prop} {σ : St} {δ : SS} {R : Nat → List Addr}
theorem allV_get {i : Nat} {d : D} (h : (allV δ)[i]? = some (some d)) : ∃ x, δ[i]? = some (some x) ∧ x.val = d := by
 unfold allV at h
 rw [List.getElem?_map] at h
 cases e : δ[i]? with
 | none => rw [e] at h; cases h
 | some o =>
  rw [e] at h
  cases o with
  | none => cases h
  | some x => cases h; exact ⟨x, rfl, rfl⟩
theorem shV_get {i : Nat} {d : D} (h : (shV δ)[i]? = some (some d)) : δ[i]? = some (some (.sh d)) := by
 unfold shV at h
 rw [List.getElem?_map] at h
 cases e : δ[i]? with
 | none => rw [e] at h; cases h
 | some o =>
  rw [e] at h
  have h' : shO o = some d := Option.some.inj h
  unfold shO at h'
  split at h'
  ·cases h'; rfl
  ·cases h'
theorem RS.all (h : RS K H0 B0 H σ δ R) : RepS K H noB σ (allV δ) := by
 refine ⟨by unfold allV; rw [List.length_map]; exact h.len, fun i d e => ?_⟩
 obtain ⟨x, e', rfl⟩ := allV_get e
 cases x with
 | sh d =>
  obtain ⟨v, e1, r⟩ := h.sh i d e'
  exact ⟨v, e1, r.anti fun _ z => z.elim⟩
 | bo r d =>
  obtain ⟨v, e1, r⟩ := h.bo i r d e'
  exact ⟨v, e1, r.anti fun _ z => z.elim⟩
 | ow d =>
  obtain ⟨v, e1, t, _⟩ := h.ow i d e'
  exact ⟨v, e1, t.rep d fun _ _ z => z.elim⟩
theorem RS.shr (h : RS K H0 B0 H σ δ R) : RepS K H (fun a => B0 a ∨ ∃ r, a ∈ R r) σ (shV δ) := by
 refine ⟨by unfold shV; rw [List.length_map]; exact h.len, fun i d e => h.sh i d (shV_get e)⟩
theorem RS.inAll (h : RS K H0 B0 H σ δ R) : InB (fun a => B0 a ∨ ∃ r, a ∈ R r) H := fun a ha => by
 rcases ha with z | ⟨r, z⟩
 ·exact (h.inB.mono h.keep) a z
 ·obtain ⟨o, e, _⟩ := h.held r a z
  exact ⟨o, e⟩
theorem RS.mono (h : RS K H0 B0 H σ δ R) (e : Same H H') : RS K H0 B0 H' σ δ R := by
 refine ⟨h.keep.trans e, h.inB, h.len, h.new, fun r a z => ?_, h.disj, fun i d z => ?_, fun i r d z => ?_, fun i d z => ?_⟩
 ·obtain ⟨o, e1, m⟩ := h.held r a z
  exact ⟨o, e a o e1, m⟩
 ·obtain ⟨v, e1, r⟩ := h.sh i d z
  exact ⟨v, e1, r.mono e⟩
 ·obtain ⟨v, e1, r⟩ := h.bo i r d z
  exact ⟨v, e1, r.mono e⟩
 ·obtain ⟨v, e1, t, nd⟩ := h.ow i d z
  exact ⟨v, e1, t.mono e, nd⟩
theorem RS.setSh {i : Nat} {d : D} {v : V} (h : RS K H0 B0 H σ δ R) (r : Rep K H (fun a => B0 a ∨ ∃ r, a ∈ R r) d v) : RS K H0 B0 H (σ.set i (some v)) (δ.set i (some (.sh d))) R := by
 have gs : ∀ {α : Type} {l : List (Option α)} {i j : Nat} {x : Option α} {y : α}, (l.set i x)[j]? = some (some y) → (j = i ∧ x = some y) ∨ (j ≠ i ∧ l[j]? = some (some y)) := fun {α l i j x y} e => by
  by_cases hj : j = i
  ·subst hj
   rw [List.getElem?_set] at e
   simp only [if_true] at e
   split at e
   ·exact .inl ⟨rfl, Option.some.inj e⟩
   ·cases e
  ·rw [List.getElem?_set_ne (Ne.symm hj)] at e
   exact .inr ⟨hj, e⟩
 have up : ∀ {j : Nat} {w : V}, j ≠ i → σ[j]? = some (some w) → (σ.set i (some v))[j]? = some (some w) := fun hj e => by rw [List.getElem?_set_ne (Ne.symm hj)]; exact e
 refine ⟨h.keep, h.inB, by simp [h.len], h.new, h.held, h.disj, fun j d' z => ?_, fun j r' d' z => ?_, fun j d' z => ?_⟩
 ·rcases gs z with ⟨rfl, q⟩ | ⟨hj, q⟩
  ·cases q
   have hl : j < σ.length := by
    rw [← h.len]
    by_cases hl : j < δ.length
    ·exact hl
    ·rw [List.getElem?_eq_none (by simp; omega)] at z; cases z
   exact ⟨v, by rw [List.getElem?_set]; simp [hl], r⟩
  ·obtain ⟨w, e1, r⟩ := h.sh j d' q
   exact ⟨w, up hj e1, r⟩
 ·rcases gs z with ⟨rfl, q⟩ | ⟨hj, q⟩
  ·cases q
  ·obtain ⟨w, e1, r⟩ := h.bo j r' d' q
   exact ⟨w, up hj e1, r⟩
 ·rcases gs z with ⟨rfl, q⟩ | ⟨hj, q⟩
  ·cases q
  ·obtain ⟨w, e1, t⟩ := h.ow j d' q
   exact ⟨w, up hj e1, t⟩
def setR (R : Nat → List Addr) (i : Nat) (A : List Addr) : Nat → List Addr := fun r => if r = i then A else R r
theorem setR_same {i : Nat} {A : List Addr} : setR R i A i = A := if_pos rfl
theorem setR_ne {i r : Nat} {A : List Addr} (h : r ≠ i) : setR R i A r = R r := if_neg h
theorem get_set {α : Type} {l : List (Option α)} {i j : Nat} {x : Option α} {y : α} (e : (l.set i x)[j]? = some (some y)) : (j = i ∧ x = some y ∧ i < l.length) ∨ (j ≠ i ∧ l[j]? = some (some y)) := by
 by_cases hj : j = i
 ·subst hj
  rw [List.getElem?_set] at e
  simp only [if_true] at e
  split at e
  ·rename_i hl
   exact .inl ⟨rfl, Option.some.inj e, hl⟩
  ·cases e
 ·rw [List.getElem?_set_ne (Ne.symm hj)] at e
  exact .inr ⟨hj, e⟩
theorem RS.setOw {Hold : Hp} {i : Nat} {d : D} {v : V} {A : List Addr} (h : RS K H0 B0 Hold σ δ R) (e : Same Hold H) (t : Tree K H d v A) (nd : A.Nodup) (fr : ∀ a ∈ A, Hold a = none) : RS K H0 B0 H (σ.set i (some v)) (δ.set i (some (.ow d))) (setR R i A) := by
 have hm := h.mono e
 have up : ∀ {j : Nat} {w : V}, j ≠ i → σ[j]? = some (some w) → (σ.set i (some v))[j]? = some (some w) := fun hj e => by rw [List.getElem?_set_ne (Ne.symm hj)]; exact e
 have hA : ∀ r a, a ∈ R r → a ∉ A := fun r a z z' => by
  obtain ⟨o, q, _⟩ := h.held r a z
  rw [fr a z'] at q; cases q
 have mem : ∀ r a, a ∈ setR R i A r → (r = i ∧ a ∈ A) ∨ (r ≠ i ∧ a ∈ R r) := fun r a z => by
  by_cases hr : r = i
  ·subst hr; rw [setR_same] at z; exact .inl ⟨rfl, z⟩
  ·rw [setR_ne hr] at z; exact .inr ⟨hr, z⟩
 refine ⟨hm.keep, h.inB, by simp [h.len], fun r a z => ?_, fun r a z => ?_, fun r s a z z' => ?_, fun j d' z => ?_, fun j r' d' z => ?_, fun j d' z => ?_⟩
 ·rcases mem r a z with ⟨_, z⟩ | ⟨_, z⟩
  ·exact h.keep.free (fr a z)
  ·exact h.new r a z
 ·rcases mem r a z with ⟨_, z⟩ | ⟨_, z⟩
  ·exact t.held d a z
  ·exact hm.held r a z
 ·rcases mem r a z with ⟨h1, z⟩ | ⟨h1, z⟩ <;> rcases mem s a z' with ⟨h2, z'⟩ | ⟨h2, z'⟩
  ·rw [h1, h2]
  ·exact absurd z (hA s a z')
  ·exact absurd z' (hA r a z)
  ·exact h.disj r s a z z'
 ·rcases get_set z with ⟨rfl, q, _⟩ | ⟨hj, q⟩
  ·cases q
  ·obtain ⟨w, e1, r⟩ := h.sh j d' q
   refine ⟨w, up hj e1, Rep.anti ?_ d' ((Rep.wide (C := fun a => a ∈ A) fr d' r).mono e)⟩
   rintro a (z | ⟨r, z⟩)
   ·exact .inl (.inl z)
   ·rcases mem r a z with ⟨_, z⟩ | ⟨_, z⟩
    ·exact .inr z
    ·exact .inl (.inr ⟨r, z⟩)
 ·rcases get_set z with ⟨rfl, q, _⟩ | ⟨hj, q⟩
  ·cases q
  ·obtain ⟨w, e1, r⟩ := h.bo j r' d' q
   refine ⟨w, up hj e1, Rep.anti ?_ d' ((Rep.wide (C := fun a => a ∈ A) fr d' r).mono e)⟩
   rintro a (z | ⟨s, hs, z⟩)
   ·exact .inl (.inl z)
   ·rcases mem s a z with ⟨_, z⟩ | ⟨_, z⟩
    ·exact .inr z
    ·exact .inl (.inr ⟨s, hs, z⟩)
 ·rcases get_set z with ⟨rfl, q, hl⟩ | ⟨hj, q⟩
  ·cases q
   rw [setR_same]
   exact ⟨v, by rw [List.getElem?_set]; simp [← h.len, hl], t, nd⟩
  ·obtain ⟨w, e1, t'⟩ := hm.ow j d' q
   rw [setR_ne hj]
   exact ⟨w, up hj e1, t'⟩
def frzS (i : Nat) (δ : SS) : SS := match δ[i]? with
 | some (some (.ow d)) => δ.set i (some (.sh d))
 | _ => δ
theorem RS.frz (i : Nat) (h : RS K H0 B0 H σ δ R) : ∃ R', RS K H0 B0 H σ (frzS i δ) R' ∧ ∀ r a, a ∈ R' r → a ∈ R r := by
 unfold frzS
 split
 ·rename_i d e
  obtain ⟨v, e1, t, nd⟩ := h.ow i d e
  refine ⟨setR R i [], ?_, fun r a z => ?_⟩
  ·have mem : ∀ r a, a ∈ setR R i [] r → r ≠ i ∧ a ∈ R r := fun r a z => by
    by_cases hr : r = i
    ·subst hr; rw [setR_same] at z; cases z
    ·rw [setR_ne hr] at z; exact ⟨hr, z⟩
   refine ⟨h.keep, h.inB, by simp [h.len], fun r a z => h.new r a (mem r a z).2, fun r a z => h.held r a (mem r a z).2, fun r s a z z' => h.disj r s a (mem r a z).2 (mem s a z').2, fun j d' z => ?_, fun j r' d' z => ?_, fun j d' z => ?_⟩
   ·rcases get_set z with ⟨rfl, q, hl⟩ | ⟨hj, q⟩
    ·cases q
     refine ⟨v, e1, t.rep d fun a ha => ?_⟩
     rintro (z | ⟨r, z⟩)
     ·obtain ⟨o, q⟩ := h.inB a z
      rw [h.new j a ha] at q; cases q
     ·exact (mem r a z).1 (h.disj r j a (mem r a z).2 ha)
    ·obtain ⟨w, e2, r⟩ := h.sh j d' q
     exact ⟨w, e2, r.anti fun a z => z.imp id fun ⟨r, z⟩ => ⟨r, (mem r a z).2⟩⟩
   ·rcases get_set z with ⟨rfl, q, _⟩ | ⟨hj, q⟩
    ·cases q
    ·obtain ⟨w, e2, r⟩ := h.bo j r' d' q
     exact ⟨w, e2, r.anti fun a z => z.imp id fun ⟨s, hs, z⟩ => ⟨s, hs, (mem s a z).2⟩⟩
   ·rcases get_set z with ⟨rfl, q, _⟩ | ⟨hj, q⟩
    ·cases q
    ·rw [setR_ne hj]
     exact h.ow j d' q
  ·by_cases hr : r = i
   ·subst hr; rw [setR_same] at z; cases z
   ·rw [setR_ne hr] at z; exact z
 ·exact ⟨R, h, fun _ _ z => z⟩
end
inductive Out where
 | nx (δ : SS) | bk (δ : SS) | ct (δ : SS) | rt (d : D) | ex (c : Nat) (δ : SS)
abbrev XR := Nat → St → Hp → Prop
abbrev noX : XR := fun _ _ _ => False
def Ret (K : PySem.W.Frag) (H0 : Hp) (B0 : Addr → Prop) (fr : Bool) (H : Hp) (d : D) (v : V) : Prop :=
 Same H0 H ∧ (fr = true → ∃ A, Tree K H d v A ∧ A.Nodup ∧ ∀ a ∈ A, H0 a = none) ∧ (fr = false → Rep K H B0 d v)
def Aft (K : PySem.W.Frag) (H0 : Hp) (B0 : Addr → Prop) (fr : Bool) (RX : XR) (R : Nat → List Addr) (H : Hp) (D : Ends) : Out → Prop
 | .nx δ' => ∀ σ' H' R', RS K H0 B0 H' σ' δ' R' → Stp R H R' H' → D.nx σ' H'
 | .bk δ' => ∀ σ' H' R', RS K H0 B0 H' σ' δ' R' → Stp R H R' H' → D.bk σ' H'
 | .ct δ' => ∀ σ' H' R', RS K H0 B0 H' σ' δ' R' → Stp R H R' H' → D.ct σ' H'
 | .rt d => ∀ v H', Ret K H0 B0 fr H' d v → (∀ a, H' a = none → H a = none) → D.rt v H'
 | .ex c δ' => ∀ σ' H' R', RS K H0 B0 H' σ' δ' R' → Stp R H R' H' → RX c σ' H'
def tS (K : PySem.W.Frag) (H0 : Hp) (B0 : Addr → Prop) (fr : Bool) (RX : XR) (g : SS → Option Out) : TS := fun D σ H => ∃ δ R o, RS K H0 B0 H σ δ R ∧ g δ = some o ∧ Aft K H0 B0 fr RX R H D o
theorem Aft.back {K : PySem.W.Frag} {H0 : Hp} {B0 : Addr → Prop} {fr : Bool} {RX : XR} {R R1 : Nat → List Addr} {H H1 : Hp} {D : Ends} {o : Out} (h : Aft K H0 B0 fr RX R H D o) (s : Stp R H R1 H1) : Aft K H0 B0 fr RX R1 H1 D o := by
 cases o with
 | nx δ' => exact fun σ' H' R' r t => h σ' H' R' r (s.trans t)
 | bk δ' => exact fun σ' H' R' r t => h σ' H' R' r (s.trans t)
 | ct δ' => exact fun σ' H' R' r t => h σ' H' R' r (s.trans t)
 | rt d => exact fun v H' r t => h v H' r fun a z => s.there a (t a z)
 | ex c δ' => exact fun σ' H' R' r t => h σ' H' R' r (s.trans t)
theorem PS.imp {X : Cx} {st : Stmt} {t t' : TS} (h : PS X st t) (w : ∀ D σ H, t' D σ H → t D σ H) : PS X st t' := fun pins s σ H D I q => h pins s σ H D I (w D σ H q)
theorem PSs.imp {X : Cx} {st : List Stmt} {t t' : TS} (h : PSs X st t) (w : ∀ D σ H, t' D σ H → t D σ H) : PSs X st t' := fun pins s σ H D I q => h pins s σ H D I (w D σ H q)
section
variable {X : Cx} {H0 : Hp} {B0 : Addr → Prop} {fr : Bool} {RX : XR} {st : Stmt} {sts : List Stmt} {e : Expr} {pos : Pos}
def seqO (g h : SS → Option Out) : SS → Option Out := fun δ => (g δ).bind fun o => match o with
 | .nx δ' => h δ'
 | o => some o
def skipO : SS → Option Out := fun δ => some (.nx δ)
theorem ss_nil : PSs X [] (tS X.K H0 B0 fr RX skipO) := pss_nil.imp fun D σ H ⟨δ, R, o, rs, q, k⟩ => by
 cases q
 exact k σ H R rs (.refl R H)
theorem ss_cons {g h : SS → Option Out} (h1 : PS X st (tS X.K H0 B0 fr RX g)) (h2 : PSs X sts (tS X.K H0 B0 fr RX h)) : PSs X (st :: sts) (tS X.K H0 B0 fr RX (seqO g h)) := (pss_cons h1 h2).imp fun D σ H ⟨δ, R, o, rs, q, k⟩ => by
 unfold seqO at q
 cases e : g δ with
 | none => rw [e] at q; cases q
 | some o1 =>
  rw [e] at q
  refine ⟨δ, R, o1, rs, e, ?_⟩
  cases o1 with
  | nx δ' =>
   have q' : h δ' = some o := q
   exact fun σ' H' R' rs' s' => ⟨δ', R', o, rs', q', k.back s'⟩
  | bk δ' => cases q; exact k
  | ct δ' => cases q; exact k
  | rt d => cases q; exact k
  | ex c δ' => cases q; exact k
theorem ss_one {g : SS → Option Out} (h1 : PS X st (tS X.K H0 B0 fr RX g)) : PSs X [st] (tS X.K H0 B0 fr RX g) := pss_one h1
abbrev PAsg (X : Cx) (st : Stmt) (i : Nat) (te : TE) : Prop := PS X st (tAsg te (gName i))
theorem PAsg.imp {i : Nat} {t t' : TE} (h : PAsg X st i t) (w : ∀ σ H Q, t' σ H Q → t σ H Q) : PAsg X st i t' := PS.imp h fun D σ H q => w σ H _ q
theorem pas_e {i : Nat} {x : Str} {te : TE} {pos' : Pos} (hN : X.N.Nodup) (hi : X.N[i]? = some x) (hx : Loc X.env.scope x) (he : PE X e te) (hs : swapsWith e (some (.Name x pos')) pos.line X.env = pure false := by rfl) (hf : X.fn x = true ∨ X.env.scope.names.lookup x = some .local := by first | exact .inl rfl | exact .inr rfl | assumption) :
  PAsg X (.Assign [.Name x pos'] e pos) i te := ps_set hN hi hx he hs hf
def asgS (i : Nat) (f : DE) : SS → Option Out := fun δ => (f (shV δ)).map fun d => .nx (δ.set i (some (.sh d)))
def asgI (i : Nat) (f : DE) : SS → Option Out := fun δ => (f (allV δ)).bind fun d => if d.imm = true then some (.nx (δ.set i (some (.sh d)))) else none
def asgN (i : Nat) (f : DE) : SS → Option Out := fun δ => (f (allV δ)).map fun d => .nx (δ.set i (some (.ow d)))
theorem s_asgS {i : Nat} {f : DE} (h : PAsg X st i (tD X.K f)) : PS X st (tS X.K H0 B0 fr RX (asgS i f)) := PS.imp h fun D σ H ⟨δ, R, o, rs, q, k⟩ => by
 unfold asgS at q
 cases e : f (shV δ) with
 | none => rw [e] at q; cases q
 | some d =>
  rw [e] at q
  cases q
  exact ⟨_, shV δ, d, rs.inAll, rs.shr, e, fun v H' s r => k _ H' R ((rs.mono s).setSh r) (.same s)⟩
theorem s_asgI {i : Nat} {f : DE} (h : PAsg X st i (tD X.K f)) : PS X st (tS X.K H0 B0 fr RX (asgI i f)) := PS.imp h fun D σ H ⟨δ, R, o, rs, q, k⟩ => by
 unfold asgI at q
 cases e : f (allV δ) with
 | none => rw [e] at q; cases q
 | some d =>
  rw [e] at q
  have q' : (if d.imm = true then some (Out.nx (δ.set i (some (.sh d)))) else none) = some o := q
  split at q'
  ·rename_i hi
   cases q'
   exact ⟨noB, allV δ, d, .no, rs.all, e, fun v H' s r => k _ H' R ((rs.mono s).setSh (r.imm d hi)) (.same s)⟩
  ·cases q'
theorem s_asgN {i : Nat} {f : DE} (h : PAsg X st i (tN X.K f)) : PS X st (tS X.K H0 B0 fr RX (asgN i f)) := PS.imp h fun D σ H ⟨δ, R, o, rs, q, k⟩ => by
 unfold asgN at q
 cases e : f (allV δ) with
 | none => rw [e] at q; cases q
 | some d =>
  rw [e] at q
  cases q
  refine ⟨allV δ, d, rs.all, e, fun v H' A s t nd fr' => k _ H' (setR R i A) (rs.setOw s t nd fr') ⟨fun a o h _ => s a o h, fun r a z => ?_, fun a z => s.free z⟩⟩
  by_cases hr : r = i
  ·subst hr; rw [setR_same] at z; exact .inr (fr' a z)
  ·rw [setR_ne hr] at z; exact .inl ⟨r, z⟩
def retI (f : DE) : SS → Option Out := fun δ => (f (allV δ)).bind fun d => if d.imm = true then some (.rt d) else none
def retN (f : DE) : SS → Option Out := fun δ => (f (allV δ)).map .rt
def retS (f : DE) : SS → Option Out := fun δ => (f (shV δ)).map .rt
def retO (i : Nat) : SS → Option Out := fun δ => match δ[i]? with
 | some (some (.ow d)) => some (.rt d)
 | _ => none
theorem s_retI {f : DE} (h : PD X e f) : PS X (.Return (some e) pos) (tS X.K H0 B0 fr RX (retI f)) := PS.imp (ps_ret h) fun D σ H ⟨δ, R, o, rs, q, k⟩ => by
 unfold retI at q
 cases e : f (allV δ) with
 | none => rw [e] at q; cases q
 | some d =>
  rw [e] at q
  have q' : (if d.imm = true then some (Out.rt d) else none) = some o := q
  split at q'
  ·rename_i hi
   cases q'
   exact ⟨noB, allV δ, d, .no, rs.all, e, fun v H' s r => k v H' ⟨rs.keep.trans s, fun _ => ⟨[], r.immTree d hi, List.nodup_nil, (fun a z => nomatch z)⟩, fun _ => r.imm d hi⟩ fun a z => s.free z⟩
  ·cases q'
theorem s_retN {f : DE} (h : PN X e f) : PS X (.Return (some e) pos) (tS X.K H0 B0 fr RX (retN f)) := PS.imp (ps_ret h) fun D σ H ⟨δ, R, o, rs, q, k⟩ => by
 unfold retN at q
 cases e : f (allV δ) with
 | none => rw [e] at q; cases q
 | some d =>
  rw [e] at q
  cases q
  exact ⟨allV δ, d, rs.all, e, fun v H' A s t nd fr' => k v H' ⟨rs.keep.trans s, fun _ => ⟨A, t, nd, fun a z => rs.keep.free (fr' a z)⟩, fun _ => t.rep d fun a z => rs.inB.fresh (rs.keep.free (fr' a z))⟩ fun a z => s.free z⟩
theorem s_retS {f : DE} (h : PD X e f) : PS X (.Return (some e) pos) (tS X.K H0 B0 false RX (retS f)) := PS.imp (ps_ret h) fun D σ H ⟨δ, R, o, rs, q, k⟩ => by
 unfold retS at q
 cases e : f (shV δ) with
 | none => rw [e] at q; cases q
 | some d =>
  rw [e] at q
  cases q
  exact ⟨_, shV δ, d, rs.inAll, rs.shr, e, fun v H' s r => k v H' ⟨rs.keep.trans s, (fun z => nomatch z), fun _ => r.anti fun a z => .inl z⟩ fun a z => s.free z⟩
theorem s_retO {i : Nat} (h : PE X e (tVar i)) : PS X (.Return (some e) pos) (tS X.K H0 B0 fr RX (retO i)) := PS.imp (ps_ret h) fun D σ H ⟨δ, R, o, rs, q, k⟩ => by
 unfold retO at q
 split at q
 ·rename_i d e
  cases q
  obtain ⟨v, e1, t, nd⟩ := rs.ow i d e
  exact ⟨v, e1, k v H ⟨rs.keep, fun _ => ⟨R i, t, nd, fun a z => rs.new i a z⟩, fun _ => t.rep d fun a z => rs.inB.fresh (rs.new i a z)⟩ fun a z => z⟩
 ·cases q
def ifO (c : DS → Option Bool) (g h : SS → Option Out) : SS → Option Out := fun δ => (c (allV δ)).bind fun b => if b = true then g δ else h δ
theorem s_if {c : Expr} {a b : List Stmt} {f : DS → Option Bool} {g h : SS → Option Out} (hc : PTD X c f) (ha : PSs X a (tS X.K H0 B0 fr RX g)) (hb : PSs X b (tS X.K H0 B0 fr RX h)) : PS X (.If c a b pos) (tS X.K H0 B0 fr RX (ifO f g h)) := PS.imp (ps_if hc ha hb) fun D σ H ⟨δ, R, o, rs, q, k⟩ => by
 unfold ifO at q
 cases e : f (allV δ) with
 | none => rw [e] at q; cases q
 | some b =>
  rw [e] at q
  have q' : (if b = true then g δ else h δ) = some o := q
  refine ⟨noB, allV δ, b, .no, rs.all, e, fun H' s => ?_⟩
  cases b with
  | true =>
   rw [if_pos rfl] at q'
   refine iteT ?_
   exact ⟨δ, R, o, rs.mono s, q', k.back (.same s)⟩
  | false =>
   rw [if_neg Bool.false_ne_true] at q'
   refine iteF ?_
   exact ⟨δ, R, o, rs.mono s, q', k.back (.same s)⟩
def frzO (i : Nat) (g : SS → Option Out) : SS → Option Out := fun δ => g (frzS i δ)
theorem s_frz (i : Nat) {g : SS → Option Out} (h : PS X st (tS X.K H0 B0 fr RX g)) : PS X st (tS X.K H0 B0 fr RX (frzO i g)) := PS.imp h fun D σ H ⟨δ, R, o, rs, q, k⟩ => by
 obtain ⟨R', rs', hs⟩ := rs.frz i
 exact ⟨frzS i δ, R', o, rs', q, k.back ⟨fun a o h _ => h, fun r a z => .inl ⟨r, hs r a z⟩, fun a z => z⟩⟩
def forD (i : Nat) (b : SS → Option Out) : List D → SS → Option Out
 | [], δ => some (.nx δ)
 | x :: r, δ => (b (δ.set i (some (.sh x)))).bind fun o => match o with
  | .nx δ' => forD i b r δ'
  | .ct δ' => forD i b r δ'
  | .bk δ' => some (.nx δ')
  | .rt d => some (.rt d)
  | .ex c δ' => some (.ex c δ')
def forO (i : Nat) (f : DS → Option (List D)) (b : SS → Option Out) : SS → Option Out := fun δ => (f (shV δ)).bind fun ds => forD i b ds δ
theorem Stp.keepB {K : PySem.W.Frag} {R R' : Nat → List Addr} {H H' : Hp} {B : Addr → Prop} (s : Stp R H R' H') (hR : ∀ r a, a ∈ R r → B a) (hm : ∀ r a, a ∈ R r → ∃ o, H a = some o ∧ Mut (some o)) : Keep K B H H' := by
 have kp : ∀ a o, H a = some o → ¬ Mut (some o) → H' a = some o := fun a o e n => s.keep a o e fun r z => by
  obtain ⟨o', e', m⟩ := hm r a z
  rw [e] at e'; cases e'
  exact n m
 refine ⟨fun a xs n h => s.keep a _ h fun r z => n (hR r a z), fun a xs h => ?_, fun a xs h => ?_, fun a kvs n h => s.keep a _ h fun r z => n (hR r a z), fun a φ n h => s.keep a _ h fun r z => n (hR r a z)⟩
 ·rcases h with (h | ⟨o, h⟩) | h
  ·exact .inl (.inl (kp a _ h fun z => z))
  ·exact .inl (.inr ⟨o, kp a _ h fun z => z⟩)
  ·exact .inr h
 ·rcases h with ⟨o, h⟩ | h
  ·exact .inl ⟨o, kp a _ h fun z => z⟩
  ·exact .inr h
theorem s_for {i : Nat} {x : Str} {px : Pos} {iter : Expr} {body : List Stmt} {f : DS → Option (List D)} {g : SS → Option Out} (hp : PassesOwn (model X.prog X.w) X.A X.env X.xe) (hc : X.calm = true) (hi : PID X (.Name x px) iter f) (hg : PG X (.Name x px) (gName i)) (hb : PSs X body (tS X.K H0 B0 fr RX g))
  (hs : ∀ x, foldedSetIterable iter X.env x = pure x := by intro _; rfl) : PS X (.For (.Name x px) iter body [] pos) (tS X.K H0 B0 fr RX (forO i f g)) := PS.imp (ps_for hp hc hi hg hb hs) fun D σ H ⟨δ, R, o, rs, q, k⟩ => by
 unfold forO at q
 cases e : f (shV δ) with
 | none => rw [e] at q; cases q
 | some ds =>
 rw [e] at q
 have q : forD i g ds δ = some o := q
 refine ⟨_, shV δ, ds, rs.inAll, rs.shr, e, fun J H1 s1 itw => ?_⟩
 have rs1 := rs.mono s1
 have it := itw (fun a => H1 a = none) fun a z => z
 refine ⟨fun n m σ' H' => m = ds.length - n ∧ n ≤ ds.length ∧ ∃ δ' R', RS X.K H0 B0 H' σ' δ' R' ∧ Stp R H1 R' H' ∧ forD i g (ds.drop n) δ' = some o, ⟨ds.length, by simp, Nat.zero_le _, δ, R, rs1, .refl R H1, q⟩, ?_⟩
 rintro n m σ' H' ⟨rfl, hn, δ', R', rs', s', q'⟩
 have kp : Keep X.K (fun a => (B0 a ∨ ∃ r, a ∈ R r) ∨ H1 a = none) H1 H' := s'.keepB (fun r a z => .inl (.inr ⟨r, z⟩)) rs1.held
 by_cases hlt : n < ds.length
 ·have hx : ds.drop n = ds[n] :: ds.drop (n + 1) := List.drop_eq_getElem_cons hlt
  rw [hx] at q'
  unfold forD at q'
  cases eb : g (δ'.set i (some (.sh ds[n]))) with
  | none => rw [eb] at q'; cases q'
  | some ob =>
   rw [eb] at q'
   refine .inr ⟨it.go n H' kp hlt, fun σ2 H2 => n + 1 ≤ ds.length ∧ ∃ δ2 R2, RS X.K H0 B0 H2 σ2 δ2 R2 ∧ Stp R H1 R2 H2 ∧ forD i g (ds.drop (n + 1)) δ2 = some o, fun σ2 H2 z => ⟨ds.length - (n + 1), by omega, rfl, z⟩, fun xv H2 hy => ?_⟩
   obtain ⟨s2, d, hd, rd⟩ := it.yld n H' xv H2 kp hy
   have hdi : d = ds[n] := by
    have := hd hlt
    rw [List.getElem?_eq_getElem hlt] at this
    exact (Option.some.inj this).symm
   subst hdi
   have rd' : Rep X.K H2 (fun a => B0 a ∨ ∃ r, a ∈ R' r) ds[n] xv := rd.anti fun a z => by
    rcases z with z | ⟨r, z⟩
    ·exact .inl (.inl z)
    ·rcases s'.from' r a z with z | z
     ·exact .inl (.inr z)
     ·exact .inr z
   have rs2 := (rs'.mono s2).setSh (i := i) rd'
   have st2 : Stp R H1 R' H2 := s'.trans (.same s2)
   refine ⟨_, R', ob, rs2, eb, ?_⟩
   cases ob with
   | nx δ2 =>
    have q2 : forD i g (ds.drop (n + 1)) δ2 = some o := q'
    exact fun σ3 H3 R3 rs3 s3 => ⟨hlt, δ2, R3, rs3, st2.trans s3, q2⟩
   | ct δ2 =>
    have q2 : forD i g (ds.drop (n + 1)) δ2 = some o := q'
    exact fun σ3 H3 R3 rs3 s3 => ⟨hlt, δ2, R3, rs3, st2.trans s3, q2⟩
   | bk δ2 =>
    cases q'
    exact fun σ3 H3 R3 rs3 s3 => k σ3 H3 R3 rs3 ((Stp.same s1).trans (st2.trans s3))
   | rt d =>
    cases q'
    exact k.back ((Stp.same s1).trans st2)
   | ex c δ2 =>
    cases q'
    exact k.back ((Stp.same s1).trans st2)
 ·have en : n = ds.length := by omega
  subst en
  rw [List.drop_length] at q'
  cases q'
  exact .inl ⟨it.stop _ H' kp (Nat.le_refl _), k σ' H' R' rs' ((Stp.same s1).trans s')⟩
end
def runD (np nl : Nat) (g : SS → Option Out) : List D → Option D := fun ds => if ds.length = np then (match g (ds.map (fun d => some (.sh d)) ++ List.replicate nl none) with
 | some (.rt d) => some d
 | some (.nx _) => some .non
 | _ => none) else none
theorem runD_len {np nl : Nat} {g : SS → Option Out} {ds : List D} {d : D} (h : runD np nl g ds = some d) : ds.length = np := by
 unfold runD at h
 split at h
 ·assumption
 ·cases h
theorem rs_start {K : PySem.W.Frag} {H : Hp} {B : Addr → Prop} {ds : List D} {vs : List V} {N : List Str} {nl : Nat} (hB : InB B H) (r : Reps K H B ds vs) (hN : N.length = ds.length + nl) :
  RS K H B H (start N vs) (ds.map (fun d => some (.sh d)) ++ List.replicate nl none) (fun _ => []) := by
 have hl := r.length
 have get : ∀ {i : Nat} {x : SD}, (ds.map (fun d => some (SD.sh d)) ++ List.replicate nl none)[i]? = some (some x) → ∃ d, ds[i]? = some d ∧ x = .sh d := fun {i x} e => by
  by_cases hi : i < ds.length
  ·rw [List.getElem?_append_left (by simpa using hi), List.getElem?_map, List.getElem?_eq_getElem hi] at e
   cases e
   exact ⟨ds[i], List.getElem?_eq_getElem hi, rfl⟩
  ·rw [List.getElem?_append_right (by simpa using hi), List.getElem?_replicate] at e
   split at e <;> cases e
 refine ⟨.refl H, hB, ?_, (fun _ _ z => nomatch z), (fun _ _ z => nomatch z), (fun _ _ _ z => nomatch z), fun i d e => ?_, fun i r d e => ?_, fun i d e => ?_⟩
 ·unfold start
  simp
  omega
 ·obtain ⟨d', e1, e2⟩ := get e
  cases e2
  obtain ⟨v, e3, rv⟩ := r.get e1
  refine ⟨v, ?_, rv.anti fun a z => z.elim id (fun ⟨_, z⟩ => nomatch z)⟩
  unfold start
  have hi : i < vs.length := (List.getElem?_eq_some_iff.mp e3).1
  rw [List.getElem?_append_left (by simpa using hi), List.getElem?_map, e3]
  rfl
 ·obtain ⟨d', _, e2⟩ := get e
  cases e2
 ·obtain ⟨d', _, e2⟩ := get e
  cases e2
section
variable {P : Program} {w : World} {K : PySem.W.Frag} {mg : Str → Option Value} {base : Heap}
theorem fnN {x qual : Str} {st : Stmt} {f : Addr} {fd : FuncData} {N ps : List Str} {k np nl : Nat} {g : SS → Option Out} (F : Fun K x qual st f fd) (S : FnScope N ps (defScope st)) (hnp : ps.length = np) (hN : N.length = np + nl)
  (hbody : ∀ (cdv : Value) (A : Around) (outer : List Env) (s : Shared) (H : Hp) (E : XK), Room k (A.deeper (envOfC qual (defScope st) s.heap.objs.size f cdv)) →
   PSs (cxOf CX0 P w K mg base N qual (defScope st) f cdv A outer s H E).nox (defBody st) (tS K H noB true noX g)) : FnOk P w K mg base CX0 (k + 1) f fd ps (spN K (runD np nl g)) := by
 refine F.ok S (fun vs H Q E h => ?_) fun cdv A outer s H vs Q E hr h => ?_
 ·obtain ⟨ds, d, r, e, _⟩ := h
  rw [← r.length, runD_len e, hnp]
 ·obtain ⟨ds, d, r, e, kk⟩ := h
  refine ⟨_, hbody cdv A outer s H E hr, ?_⟩
  have hl := runD_len e
  unfold runD at e
  rw [if_pos hl] at e
  have rs := rs_start (nl := nl) .no r (N := N) (by omega)
  split at e
  ·rename_i d' eg
   cases e
   exact ⟨_, _, _, rs, eg, fun v H' z _ => by
    obtain ⟨A', t, nd, fr⟩ := z.2.1 rfl
    exact kk v H' A' z.1 t nd fr⟩
  ·rename_i δ' eg
   cases e
   exact ⟨_, _, _, rs, eg, fun σ' H' R' rs' _ => kk .non H' [] rs'.keep ⟨rfl, rfl⟩ List.nodup_nil (fun a z => nomatch z)⟩
  ·cases e
theorem defN {x qual : Str} {st : Stmt} {f : Addr} {fd : FuncData} {N ps : List Str} {k np nl : Nat} {g : SS → Option Out} (F : Fun K x qual st f fd) (hm : mg x = some (.ref f)) (hb : Binds K fd ps []) (S : FnScope N ps (defScope st)) (hnp : ps.length = np) (hN : N.length = np + nl)
  (hbody : ∀ (cdv : Value) (A : Around) (outer : List Env) (s : Shared) (H : Hp) (E : XK), Room k (A.deeper (envOfC qual (defScope st) s.heap.objs.size f cdv)) →
   PSs (cxOf CX0 P w K mg base N qual (defScope st) f cdv A outer s H E).nox (defBody st) (tS K H noB true noX g)) : DefOk P w K mg base (k + 1) x (spN K (runD np nl g)) :=
 ⟨f, fd, ps, hm, F.kp, hb, fnN F S hnp hN hbody⟩
theorem defR {x qual : Str} {st : Stmt} {f : Addr} {fd : FuncData} {N ps : List Str} {k np nl : Nat} {g : SS → Option Out} (F : Fun K x qual st f fd) (hm : mg x = some (.ref f)) (hb : Binds K fd ps []) (S : FnScope N ps (defScope st)) (hnp : ps.length = np) (hN : N.length = np + nl)
  (hbody : ∀ (cdv : Value) (A : Around) (outer : List Env) (s : Shared) (H : Hp) (E : XK) (B : Addr → Prop), Room k (A.deeper (envOfC qual (defScope st) s.heap.objs.size f cdv)) →
   PSs (cxOf CX0 P w K mg base N qual (defScope st) f cdv A outer s H E).nox (defBody st) (tS K H B false noX g)) : DefOk P w K mg base (k + 1) x (spR K (runD np nl g)) := by
 refine ⟨f, fd, ps, hm, F.kp, hb, F.ok S (fun vs H Q E h => ?_) fun cdv A outer s H vs Q E hr h => ?_⟩
 ·obtain ⟨B, ds, d, _, r, e, _⟩ := h
  rw [← r.length, runD_len e, hnp]
 ·obtain ⟨B, ds, d, hB, r, e, kk⟩ := h
  refine ⟨_, hbody cdv A outer s H E B hr, ?_⟩
  have hl := runD_len e
  unfold runD at e
  rw [if_pos hl] at e
  have rs := rs_start (nl := nl) hB r (N := N) (by omega)
  split at e
  ·rename_i d' eg
   cases e
   exact ⟨_, _, _, rs, eg, fun v H' z _ => kk v H' z.1 (z.2.2 rfl)⟩
  ·rename_i δ' eg
   cases e
   exact ⟨_, _, _, rs, eg, fun σ' H' R' rs' _ => kk .non H' rs'.keep rfl⟩
  ·cases e
end
end L2
namespace L2
open PySem PySem.Spec PyProof.Rows PySem.SeqAt
mutual
def toP : D → PyData
 | .non => .none
 | .bl b => .bool b
 | .int i => .int i
 | .str x => .str x
 | .lst ds => .list (toPs ds)
 | .tup ds => .tuple (toPs ds)
 | .scr ns => .list (ns.map .int)
 | .dct _ _ => .dict []
 | .exc _ => .dict []
def toPs : List D → List PyData
 | [] => []
 | d :: ds => toP d :: toPs ds
end
theorem ints_reads {h : Heap} : ∀ (ns : List Int) {us : List Value}, Vals (ns.map V.int) us → ∃ as, ReadsAll h us (ns.map .int) as
 | [], _, .nil => ⟨_, .nil⟩
 | n :: ns, _, .cons r t => by
  obtain ⟨tk, rfl⟩ := r
  obtain ⟨as, ra⟩ := ints_reads (h := h) ns t
  exact ⟨_, .cons (.int n tk) ra⟩
section
variable {X : Cx} {pins : List (Addr × Obj)} {σ : St} {H : Hp} {s : Shared} {B : Addr → Prop}
mutual
theorem rep_reads (I : Inv X pins σ H s) : ∀ (d : D) {v : V} {u : Value}, (toP d).canLay0 = true → Rep X.K H B d v → RelV v u → ∃ as, Reads s.heap u (toP d) as
 | .non, _, _, _, h, r => by cases h; cases r; exact ⟨_, .none⟩
 | .bl b, _, _, _, h, r => by cases h; cases r; exact ⟨_, .bool b⟩
 | .int i, _, _, _, h, r => by cases h; obtain ⟨t, rfl⟩ := r; exact ⟨_, .int i t⟩
 | .str x, _, _, _, h, r => by cases h; obtain ⟨t, rfl⟩ := r; exact ⟨_, .str x t⟩
 | .lst ds, _, _, hc, h, r => by
  unfold Rep at h
  obtain ⟨a, xs, rfl, _, hq, rs⟩ := h
  cases r
  obtain ⟨its, rv, ⟨o, n, e, c, _, dt⟩, _⟩ := I.list (SqL.of hq)
  have hc' : PyData.canLayAll0 (toPs ds) = true := by unfold toP PyData.canLay0 at hc; exact hc
  obtain ⟨as, ra⟩ := reps_reads I ds hc' rs rv
  unfold toP
  exact ⟨_, .list e c dt (by simpa using ra)⟩
 | .tup ds, _, _, hc, h, r => by
  unfold Rep at h
  obtain ⟨a, xs, rfl, hq, rs⟩ := h
  cases r
  obtain ⟨its, rv, ⟨o, e, c, n, dt⟩, _⟩ := I.tuple hq
  have hc' : PyData.canLayAll0 (toPs ds) = true := by unfold toP PyData.canLay0 at hc; exact hc
  obtain ⟨as, ra⟩ := reps_reads I ds hc' rs rv
  unfold toP
  exact ⟨_, .tuple e c dt (by simpa using ra)⟩
 | .scr ns, _, _, hc, h, r => by
  unfold Rep at h
  obtain ⟨a, rfl, hq⟩ := h
  cases r
  obtain ⟨its, rv, ⟨o, n, e, c, _, dt⟩, _⟩ := I.list hq.sq
  unfold toP
  obtain ⟨as, ra⟩ := ints_reads (h := s.heap) ns rv
  exact ⟨_, .list e c dt (by simpa using ra)⟩
 | .dct _ _, _, _, hc, _, _ => by unfold toP PyData.canLay0 at hc; cases hc
 | .exc _, _, _, hc, _, _ => by unfold toP PyData.canLay0 at hc; cases hc
theorem reps_reads (I : Inv X pins σ H s) : ∀ (ds : List D) {xs : List V} {us : List Value}, PyData.canLayAll0 (toPs ds) = true → Reps X.K H B ds xs → Vals xs us → ∃ as, ReadsAll s.heap us (toPs ds) as
 | [], _, _, _, h, r => by
  unfold Reps at h
  subst h
  cases r
  exact ⟨_, .nil⟩
 | d :: ds, _, _, hc, h, r => by
  unfold Reps at h
  obtain ⟨x, rr, rfl, h1, h2⟩ := h
  unfold toPs PyData.canLayAll0 at hc
  rw [Bool.and_eq_true] at hc
  cases r with
  | cons r1 r2 =>
   obtain ⟨as, ra⟩ := rep_reads I d hc.1 h1 r1
   obtain ⟨bs, rb⟩ := reps_reads I ds hc.2 h2 r2
   unfold toPs
   exact ⟨_, .cons ra rb⟩
end
end
def okP (d : D) : Bool := (toP d).canLay0 && decide ((toP d).depth ≤ 60)
def eqD (x y : D) : Option D := if (okP x && okP y) = true then some (.bl (PyData.eqv (toP x) (toP y))) else none
def neD (x y : D) : Option D := if (okP x && okP y) = true then some (.bl (!PyData.eqv (toP x) (toP y))) else none
def memD (x : D) : D → Option Bool
 | .lst ds => if (okP x && okP (.lst ds)) = true then some (ds.any fun y => PyData.eqv (toP y) (toP x)) else none
 | .tup ds => if (okP x && okP (.tup ds)) = true then some (ds.any fun y => PyData.eqv (toP y) (toP x)) else none
 | _ => none
def ninD (x y : D) : Option D := (memD x y).map fun b => .bl (!b)
def rEqD (K : PySem.W.Frag) : R2 := fun x y H Q => ∃ B dx dy, Rep K H B dx x ∧ Rep K H B dy y ∧ okP dx = true ∧ okP dy = true ∧ Q (.bl (PyData.eqv (toP dx) (toP dy))) H
def rNeD (K : PySem.W.Frag) : R2 := fun x y H Q => ∃ B dx dy, Rep K H B dx x ∧ Rep K H B dy y ∧ okP dx = true ∧ okP dy = true ∧ Q (.bl (!PyData.eqv (toP dx) (toP dy))) H
theorem okP_get {d : D} (h : okP d = true) : (toP d).canLay0 = true ∧ (toP d).depth ≤ 60 := by
 unfold okP at h
 rw [Bool.and_eq_true, decide_eq_true_eq] at h
 exact h
section
variable {X : Cx}
theorem op_eqD (hu : X.A.units + 64 < cLine) : OpR X (compareOp .Eq) (rEqD X.K) := by
 intro pins s σ H x y v u Q I rx ry h
 obtain ⟨B, dx, dy, r1, r2, o1, o2, q⟩ := h
 obtain ⟨as, ra⟩ := rep_reads I dx (okP_get o1).1 r1 rx
 obtain ⟨bs, rb⟩ := rep_reads I dy (okP_get o2).1 r2 ry
 exact compareEq_reads ra rb (okP_get o1).1 (okP_get o2).1 (by have := (okP_get o1).2; omega) ⟨.bl _, H, I, rfl, q⟩
theorem op_neD (hu : X.A.units + 64 < cLine) : OpR X (compareOp .NotEq) (rNeD X.K) := by
 intro pins s σ H x y v u Q I rx ry h
 obtain ⟨B, dx, dy, r1, r2, o1, o2, q⟩ := h
 obtain ⟨as, ra⟩ := rep_reads I dx (okP_get o1).1 r1 rx
 obtain ⟨bs, rb⟩ := rep_reads I dy (okP_get o2).1 r2 ry
 exact compareNe_reads ra rb (okP_get o1).1 (okP_get o2).1 (by have := (okP_get o1).2; omega) ⟨.bl _, H, I, rfl, q⟩
theorem o2_eq {K : PySem.W.Frag} : Op2 K (rEqD K) eqD := by
 intro H B dx dy d x y Q hB hx hy q k
 unfold eqD at q
 split at q
 ·rename_i h
  rw [Bool.and_eq_true] at h
  cases q
  exact ⟨B, dx, dy, hx, hy, h.1, h.2, k _ H (.refl H) rfl⟩
 ·cases q
theorem o2_ne {K : PySem.W.Frag} : Op2 K (rNeD K) neD := by
 intro H B dx dy d x y Q hB hx hy q k
 unfold neD at q
 split at q
 ·rename_i h
  rw [Bool.and_eq_true] at h
  cases q
  exact ⟨B, dx, dy, hx, hy, h.1, h.2, k _ H (.refl H) rfl⟩
 ·cases q
theorem toPs_any (p : PyData → Bool) : ∀ ds : List D, (toPs ds).any p = ds.any fun y => p (toP y)
 | [] => rfl
 | d :: ds => by unfold toPs; rw [List.any_cons, List.any_cons, toPs_any p ds]
def rInD (K : PySem.W.Frag) (neg : Bool) : R2 := fun x y H Q => ∃ B dx dy b, Rep K H B dx x ∧ Rep K H B dy y ∧ memD dx dy = some b ∧ Q (.bl (if neg then !b else b)) H
theorem op_inD (hu : X.A.units + 64 < cLine) : OpR X (compareOp .In) (rInD X.K false) := by
 intro pins s σ H x y v u Q I rx ry h
 obtain ⟨B, dx, dy, b, r1, r2, o, q⟩ := h
 unfold memD at o
 split at o
 ·split at o
  ·rename_i ds h
   rw [Bool.and_eq_true] at h
   cases o
   obtain ⟨as, ra⟩ := rep_reads I dx (okP_get h.1).1 r1 rx
   obtain ⟨bs, rb⟩ := rep_reads I _ (okP_get h.2).1 r2 ry
   have hc := (okP_get h.2).1
   unfold toP at rb hc
   unfold PyData.canLay0 at hc
   refine in_list_reads rb ra hc (okP_get h.1).1 (by have := (okP_get h.1).2; omega) ?_
   rw [toPs_any]
   exact ⟨.bl _, H, I, rfl, q⟩
  ·cases o
 ·split at o
  ·rename_i ds h
   rw [Bool.and_eq_true] at h
   cases o
   obtain ⟨as, ra⟩ := rep_reads I dx (okP_get h.1).1 r1 rx
   obtain ⟨bs, rb⟩ := rep_reads I _ (okP_get h.2).1 r2 ry
   have hc := (okP_get h.2).1
   unfold toP at rb hc
   unfold PyData.canLay0 at hc
   refine in_tuple_reads rb ra hc (okP_get h.1).1 (by have := (okP_get h.1).2; omega) ?_
   rw [toPs_any]
   exact ⟨.bl _, H, I, rfl, q⟩
  ·cases o
 ·cases o
theorem op_ninD (hu : X.A.units + 64 < cLine) : OpR X (compareOp .NotIn) (rInD X.K true) := by
 intro pins s σ H x y v u Q I rx ry h
 obtain ⟨B, dx, dy, b, r1, r2, o, q⟩ := h
 unfold memD at o
 split at o
 ·split at o
  ·rename_i ds h
   rw [Bool.and_eq_true] at h
   cases o
   obtain ⟨as, ra⟩ := rep_reads I dx (okP_get h.1).1 r1 rx
   obtain ⟨bs, rb⟩ := rep_reads I _ (okP_get h.2).1 r2 ry
   have hc := (okP_get h.2).1
   unfold toP at rb hc
   unfold PyData.canLay0 at hc
   refine notIn_list_reads rb ra hc (okP_get h.1).1 (by have := (okP_get h.1).2; omega) ?_
   rw [toPs_any]
   exact ⟨.bl _, H, I, rfl, q⟩
  ·cases o
 ·split at o
  ·rename_i ds h
   rw [Bool.and_eq_true] at h
   cases o
   obtain ⟨as, ra⟩ := rep_reads I dx (okP_get h.1).1 r1 rx
   obtain ⟨bs, rb⟩ := rep_reads I _ (okP_get h.2).1 r2 ry
   have hc := (okP_get h.2).1
   unfold toP at rb hc
   unfold PyData.canLay0 at hc
   refine notIn_tuple_reads rb ra hc (okP_get h.1).1 (by have := (okP_get h.1).2; omega) ?_
   rw [toPs_any]
   exact ⟨.bl _, H, I, rfl, q⟩
  ·cases o
 ·cases o
theorem o2_nin {K : PySem.W.Frag} : Op2 K (rInD K true) ninD := by
 intro H B dx dy d x y Q hB hx hy q k
 unfold ninD at q
 cases e : memD dx dy with
 | none => rw [e] at q; cases q
 | some b =>
  rw [e] at q
  cases q
  exact ⟨B, dx, dy, b, hx, hy, e, k _ H (.refl H) rfl⟩
def OpA (K : PySem.W.Frag) (r : List V → Hp → VK → Prop) (F : List D → Option D) : Prop := ∀ (H : Hp) (B : Addr → Prop) (ds : List D) (d : D) (vs : List V) (Q : VK), InB B H → Reps K H B ds vs → F ds = some d → (∀ v H', Same H H' → Rep K H' B d v → Q v H') → r vs H Q
def OpL (K : PySem.W.Frag) (r : List V → Hp → VK → Prop) (F : List D → Option (List D)) : Prop := ∀ (H : Hp) (B : Addr → Prop) (ds es : List D) (vs : List V) (Q : VK), InB B H → Reps K H B ds vs → F ds = some es →
 (∀ a xs H', Same H H' → H a = none → H' a = some (.lst xs) → Reps K H' B es xs → Q (.ref a) H') → r vs H Q
def dCallL (F : List D → Option (List D)) (fl : List DE) : DS → Option (List D) := fun δ => (dArgs fl δ).bind F
variable {x : Str} {bid T : String} {r : List V → Hp → VK → Prop} {e : Expr} {es : List Expr} {p pos : Pos} {fl : List DE}
theorem callA {F : List D → Option D} (ho : OpA X.K r F) (σ : St) (H : Hp) (Q : VK) (h : tD X.K (dCall F fl) σ H Q) : tCB r (tDs X.K (dArgs fl)) σ H Q := by
 obtain ⟨B, δ, d, hB, S, q, k⟩ := h
 obtain ⟨ds, e1, e2⟩ := dCall_some q
 exact ⟨B, δ, ds, hB, S, e1, fun vs H1 s1 r1 => ho H1 B ds d vs Q (hB.mono s1) r1 e2 fun v H' s' rv => k v H' (s1.trans s') rv⟩
theorem callL {F : List D → Option (List D)} (ho : OpL X.K r F) (σ : St) (H : Hp) (Q : VK) (h : tF X.K (dCallL F fl) σ H Q) : tCB r (tDs X.K (dArgs fl)) σ H Q := by
 obtain ⟨B, δ, d, hB, S, q, k⟩ := h
 unfold dCallL at q
 cases e1 : dArgs fl δ with
 | none => rw [e1] at q; cases q
 | some ds =>
  rw [e1] at q
  exact ⟨B, δ, ds, hB, S, e1, fun vs H1 s1 r1 => ho H1 B ds d vs Q (hB.mono s1) r1 q fun a xs H' s' hn ha rv => k a xs H' (s1.trans s') (s1.free hn) ha rv⟩
theorem pd_callB {F : List D → Option D} (hc : CallR X (.builtin bid) r) (hD : OpA X.K r F) (hg : Gl X x) (hm : X.mg x = none) (hv : bootBuiltins x = some (.builtin bid)) (ha : PAD X (e :: es) fl) (hn : x ≠ "__name__" := by decide) (hdb : (x == ("__debug__" : Str)) = false := by decide)
  (he : starEach (e :: es) X.env = (false, eval e X.env) :: starEach es X.env := by rfl) (hpl : (backTo pos (starEach es X.env)).any (·.1) = false := by rfl) : PD X (.Call (.Name x p) (e :: es) [] pos) (dCall F fl) :=
 (pe_callB hc hg hm hv ha hn hdb he hpl).imp (callA hD)
theorem pf_callT {F : List D → Option (List D)} (hc : CallR X (.type T) r) (hD : OpL X.K r F) (hg : Gl X x) (hm : X.mg x = none) (hv : bootBuiltins x = some (.type T)) (ha : PAD X (e :: es) fl) (hn : x ≠ "__name__" := by decide) (hdb : (x == ("__debug__" : Str)) = false := by decide)
  (he : starEach (e :: es) X.env = (false, eval e X.env) :: starEach es X.env := by rfl) (hpl : (backTo pos (starEach es X.env)).any (·.1) = false := by rfl) : PF X (.Call (.Name x p) (e :: es) [] pos) (dCallL F fl) :=
 (pe_callTy hc hg hm hv ha hn hdb he hpl).imp (callL hD)
theorem reps1 {K : PySem.W.Frag} {H : Hp} {B : Addr → Prop} {d : D} {vs : List V} (h : Reps K H B [d] vs) : ∃ v, vs = [v] ∧ Rep K H B d v := by
 unfold Reps at h
 obtain ⟨x, r, rfl, h1, h2⟩ := h
 unfold Reps at h2
 subst h2
 exact ⟨x, rfl, h1⟩
theorem reps2 {K : PySem.W.Frag} {H : Hp} {B : Addr → Prop} {d e : D} {vs : List V} (h : Reps K H B [d, e] vs) : ∃ v u, vs = [v, u] ∧ Rep K H B d v ∧ Rep K H B e u := by
 unfold Reps at h
 obtain ⟨x, r, rfl, h1, h2⟩ := h
 obtain ⟨u, rfl, h3⟩ := reps1 h2
 exact ⟨x, u, rfl, h1, h3⟩
def lenF : List D → Option D
 | [.lst ds] => some (.int ds.length)
 | [.tup ds] => some (.int ds.length)
 | [.scr ns] => some (.int ns.length)
 | _ => none
theorem oa_len {K : PySem.W.Frag} : OpA K (fun xs H Q => ∃ x n, xs = [x] ∧ LenV K x H n ∧ Q (.int n) H) lenF := by
 intro H B ds d vs Q hB hr q k
 unfold lenF at q
 split at q
 ·cases q
  obtain ⟨v, rfl, r⟩ := reps1 hr
  unfold Rep at r
  obtain ⟨a, xs, rfl, _, h, rs⟩ := r
  refine ⟨.ref a, xs.length, rfl, .inl ⟨xs, SqL.of h, rfl⟩, k _ H (.refl H) ?_⟩
  show V.int _ = V.int _
  rw [rs.length]
 ·cases q
  obtain ⟨v, rfl, r⟩ := reps1 hr
  unfold Rep at r
  obtain ⟨a, xs, rfl, h, rs⟩ := r
  refine ⟨.ref a, xs.length, rfl, .inr ⟨xs, h, rfl⟩, k _ H (.refl H) ?_⟩
  show V.int _ = V.int _
  rw [rs.length]
 ·cases q
  obtain ⟨v, rfl, r⟩ := reps1 hr
  unfold Rep at r
  obtain ⟨a, rfl, h⟩ := r
  exact ⟨.ref a, _, rfl, .inl ⟨_, h.sq, (List.length_map ..).symm⟩, k _ H (.refl H) rfl⟩
 ·cases q
theorem pd_len {f : DE} (hg : Gl X "len") (hm : X.mg "len" = none) (h : PD X e f) (he : starEach [e] X.env = [(false, eval e X.env)] := by rfl) : PD X (.Call (.Name "len" p) [e] [] pos) (dCall lenF [f]) :=
 pd_callB call_len oa_len hg hm PySem.boot_len (pad_cons h pad_nil he) (by decide) (by decide) he rfl
def bools : List D → Option (List Bool)
 | [] => some []
 | .bl b :: r => (bools r).map (b :: ·)
 | _ => none
def ints' : List D → Option (List Int)
 | [] => some []
 | .int i :: r => (ints' r).map (i :: ·)
 | _ => none
theorem bools_vals {K : PySem.W.Frag} {H : Hp} {B : Addr → Prop} : ∀ {ds : List D} {bs : List Bool} {xs : List V}, bools ds = some bs → Reps K H B ds xs → xs = bs.map V.bl
 | [], _, _, e, h => by cases e; unfold Reps at h; exact h
 | .bl b :: r, bs, xs, e, h => by
  unfold bools at e
  cases q : bools r with
  | none => rw [q] at e; cases e
  | some cs =>
   rw [q] at e
   cases e
   unfold Reps at h
   obtain ⟨x, r', rfl, h1, h2⟩ := h
   rw [bools_vals q h2, show x = V.bl b from h1]
   rfl
 | .non :: _, _, _, e, _ => nomatch e
 | .int _ :: _, _, _, e, _ => nomatch e
 | .str _ :: _, _, _, e, _ => nomatch e
 | .lst _ :: _, _, _, e, _ => nomatch e
 | .tup _ :: _, _, _, e, _ => nomatch e
 | .dct _ _ :: _, _, _, e, _ => nomatch e
 | .exc _ :: _, _, _, e, _ => nomatch e
 | .scr _ :: _, _, _, e, _ => nomatch e
theorem boolsAre : ∀ {bs : List Bool} {us : List Value}, Vals (bs.map V.bl) us → PyProof.Rows.LSm.BoolsAre us bs
 | [], _, .nil => .nil
 | b :: bs, _, .cons r t => by
  cases r
  exact .cons b (boolsAre t)
theorem call_allL (hc : X.calm = true) : CallR X (.builtin "all") (fun xs H Q => ∃ (p : Addr) (bs : List Bool), xs = [.ref p] ∧ SqL X.K H p (bs.map V.bl) ∧ Q (.bl (bs.all (fun b => b))) H) := by
 intro pins s σ H xs us Q I r h
 obtain ⟨p, bs, rfl, hq, q⟩ := h
 obtain ⟨u, rfl, ru⟩ := vals1 r
 cases ru
 obtain ⟨its, rv, pl, hz⟩ := I.list hq
 have hl := pl.isList
 have hb := boolsAre rv
 have hlt : p < s.heap.objs.size := by obtain ⟨_, e, _⟩ := hl; exact Heap.lt_size e
 refine call_all_walk (wpAny_pyIter_list hl ?_)
 refine ⟨s.heap.objs.size, [s.heap.objs.size, p], [s.heap.objs.size], its.toArray.size, _, _, fun i => (bs[i]?).getD true, rfl, Walks.list (A := X.A.in1) (I.ok.hd hc) _ p (Nat.ne_of_lt hlt) its.toArray,
  ⟨⟨_, Heap.get?_push_size _ rfl, rfl, rfl⟩, hl.push _⟩, fun i v s' Q' E' hP hQ => ?_, fun h' tk hk => ?_⟩
 ·obtain ⟨b, e, rfl⟩ := hb.get i v (by simpa using hP)
  simp only [e, Option.getD_some] at hQ
  exact wpAny_truthy_bool hQ
 ·have e : ((List.range its.toArray.size).all fun i => (bs[i]?).getD true) = bs.all (fun b => b) := by
   rw [List.size_toArray, hb.length]; exact LSm.range_all bs
  rw [e]
  exact ⟨.bl _, H, I.kept (LSm.kept_iter hk), rfl, q⟩
theorem call_anyL (hc : X.calm = true) : CallR X (.builtin "any") (fun xs H Q => ∃ (p : Addr) (bs : List Bool), xs = [.ref p] ∧ SqL X.K H p (bs.map V.bl) ∧ Q (.bl (bs.any (fun b => b))) H) := by
 intro pins s σ H xs us Q I r h
 obtain ⟨p, bs, rfl, hq, q⟩ := h
 obtain ⟨u, rfl, ru⟩ := vals1 r
 cases ru
 obtain ⟨its, rv, pl, hz⟩ := I.list hq
 have hl := pl.isList
 have hb := boolsAre rv
 have hlt : p < s.heap.objs.size := by obtain ⟨_, e, _⟩ := hl; exact Heap.lt_size e
 refine call_any_walk (wpAny_pyIter_list hl ?_)
 refine ⟨s.heap.objs.size, [s.heap.objs.size, p], [s.heap.objs.size], its.toArray.size, _, _, fun i => (bs[i]?).getD false, rfl, Walks.list (A := X.A.in1) (I.ok.hd hc) _ p (Nat.ne_of_lt hlt) its.toArray,
  ⟨⟨_, Heap.get?_push_size _ rfl, rfl, rfl⟩, hl.push _⟩, fun i v s' Q' E' hP hQ => ?_, fun h' tk hk => ?_⟩
 ·obtain ⟨b, e, rfl⟩ := hb.get i v (by simpa using hP)
  simp only [e, Option.getD_some] at hQ
  exact wpAny_truthy_bool hQ
 ·have e : ((List.range its.toArray.size).any fun i => (bs[i]?).getD false) = bs.any (fun b => b) := by
   rw [List.size_toArray, hb.length]; exact LSm.range_any bs
  rw [e]
  exact ⟨.bl _, H, I.kept (LSm.kept_iter hk), rfl, q⟩
def allF : List D → Option D
 | [.lst ds] => (bools ds).map fun bs => .bl (bs.all (fun b => b))
 | _ => none
def anyF : List D → Option D
 | [.lst ds] => (bools ds).map fun bs => .bl (bs.any (fun b => b))
 | _ => none
theorem oa_all {K : PySem.W.Frag} : OpA K (fun xs H Q => ∃ (p : Addr) (bs : List Bool), xs = [.ref p] ∧ SqL K H p (bs.map V.bl) ∧ Q (.bl (bs.all (fun b => b))) H) allF := by
 intro H B ds d vs Q hB hr q k
 unfold allF at q
 split at q
 ·rename_i es
  cases e : bools es with
  | none => rw [e] at q; cases q
  | some bs =>
   rw [e] at q
   cases q
   obtain ⟨v, rfl, r⟩ := reps1 hr
   unfold Rep at r
   obtain ⟨a, xs, rfl, _, h, rs⟩ := r
   rw [bools_vals e rs] at h
   exact ⟨a, bs, rfl, SqL.of h, k _ H (.refl H) rfl⟩
 ·cases q
theorem oa_any {K : PySem.W.Frag} : OpA K (fun xs H Q => ∃ (p : Addr) (bs : List Bool), xs = [.ref p] ∧ SqL K H p (bs.map V.bl) ∧ Q (.bl (bs.any (fun b => b))) H) anyF := by
 intro H B ds d vs Q hB hr q k
 unfold anyF at q
 split at q
 ·rename_i es
  cases e : bools es with
  | none => rw [e] at q; cases q
  | some bs =>
   rw [e] at q
   cases q
   obtain ⟨v, rfl, r⟩ := reps1 hr
   unfold Rep at r
   obtain ⟨a, xs, rfl, _, h, rs⟩ := r
   rw [bools_vals e rs] at h
   exact ⟨a, bs, rfl, SqL.of h, k _ H (.refl H) rfl⟩
 ·cases q
theorem pd_all {f : DE} (hc : X.calm = true) (hg : Gl X "all") (hm : X.mg "all" = none) (h : PD X e f) (he : starEach [e] X.env = [(false, eval e X.env)] := by rfl) : PD X (.Call (.Name "all" p) [e] [] pos) (dCall allF [f]) :=
 pd_callB (call_allL hc) oa_all hg hm PyProof.Rows.Boot.«all» (pad_cons h pad_nil he) (by decide) (by decide) he rfl
theorem pd_any {f : DE} (hc : X.calm = true) (hg : Gl X "any") (hm : X.mg "any" = none) (h : PD X e f) (he : starEach [e] X.env = [(false, eval e X.env)] := by rfl) : PD X (.Call (.Name "any" p) [e] [] pos) (dCall anyF [f]) :=
 pd_callB (call_anyL hc) oa_any hg hm PyProof.Rows.Boot.«any» (pad_cons h pad_nil he) (by decide) (by decide) he rfl
def listF : List D → Option (List D)
 | [.lst ds] => some ds
 | [.tup ds] => some ds
 | [.scr ns] => some (ns.map .int)
 | _ => none
theorem ol_list {K : PySem.W.Frag} : OpL K (fun xs H Q => ∃ p ys, xs = [.ref p] ∧ (SqL K H p ys ∨ SqT K H p ys) ∧ ∀ l, H l = none → Q (.ref l) (upd H l (.lst ys))) listF := by
 intro H B ds es vs Q hB hr q k
 unfold listF at q
 split at q
 ·cases q
  obtain ⟨v, rfl, r⟩ := reps1 hr
  unfold Rep at r
  obtain ⟨a, xs, rfl, _, h, rs⟩ := r
  exact ⟨a, xs, rfl, .inl (SqL.of h), fun l hl => k l xs _ (same_upd hl) hl upd_same (rs.mono (same_upd hl))⟩
 ·cases q
  obtain ⟨v, rfl, r⟩ := reps1 hr
  unfold Rep at r
  obtain ⟨a, xs, rfl, h, rs⟩ := r
  exact ⟨a, xs, rfl, .inr h, fun l hl => k l xs _ (same_upd hl) hl upd_same (rs.mono (same_upd hl))⟩
 ·cases q
  obtain ⟨v, rfl, r⟩ := reps1 hr
  unfold Rep at r
  obtain ⟨a, rfl, h⟩ := r
  exact ⟨a, _, rfl, .inl h.sq, fun l hl => k l _ _ (same_upd hl) hl upd_same (reps_ints _)⟩
 ·cases q
theorem pf_listOf {f : DE} (hg : Gl X "list") (hm : X.mg "list" = none) (h : PD X e f) (he : starEach [e] X.env = [(false, eval e X.env)] := by rfl) : PF X (.Call (.Name "list" p) [e] [] pos) (dCallL listF [f]) :=
 pf_callT call_list_of ol_list hg hm PyProof.Rows.Boot.«list» (pad_cons h pad_nil he) (by decide) (by decide) he rfl
def tupF : List D → Option D
 | [.lst ds] => some (.tup ds)
 | [.tup ds] => some (.tup ds)
 | _ => none
end
end L2
namespace L2
open PySem PySem.Spec PyProof.Rows
def tyN : D → String
 | .non => "NoneType"
 | .bl _ => "bool"
 | .int _ => "int"
 | .str _ => "str"
 | .lst _ => "list"
 | .tup _ => "tuple"
 | .scr _ => "list"
 | .dct _ _ => "dict"
 | .exc _ => "object"
inductive IsT : String → Prop where
 | bool : IsT "bool" | int : IsT "int" | str : IsT "str" | list : IsT "list" | tuple : IsT "tuple" | dict : IsT "dict"
def isF (T : String) (d : D) : Bool := tyN d == T || (tyN d == "bool" && T == "int")
theorem kit_tt (K : PySem.W.Frag) {T : String} (h : IsT T) (d : D) (hd : ∀ x, d ≠ .exc x) : PySem.W.kitOne K (.type (tyN d)) (.type T) = some (isF T d) := by
 cases h <;> cases d <;> first | kernel_rfl | exact absurd rfl (hd _)
section
variable {prog : Program} {w : World} {A : Around} {E : Value → Shared → Prop} {K : PySem.W.Frag} {x D : Addr} {ox : Obj} {s : Shared}
theorem exc_class {Q : Option Value → Shared → Prop} (X : K.In s.heap) (I : PySem.W.InstAt s.heap x ox D none) (hga : PySem.W.findIn K (.ref D) "__getattribute__" = some (some (.builtin "BaseException.__getattribute__"))) (hgh : PySem.W.findIn K (.ref D) "__getattr__" = some none)
  (hf : PySem.W.findObj K D none "__class__" = some (.bind (.builtin "getset_descriptor.__get__") (.builtin "object.__class__"))) (hm : PySem.W.mroIn K D (.type "object") = some true) (hb : PySem.W.mroIn K D (.type "BaseException") = some true)
  (h : Q (some (.ref D)) { s with toks := s.toks + 1 }) : wpAny (model prog w) A (getAttr? (.ref x) "__class__") Q E s := by
 obtain ⟨hp, gs, dr, tk, os⟩ := s
 have T0 := I.type (M := model prog w)
 have T1 := PySem.W.looks_findIn (M := model prog w) X hga
 have T2 := PySem.W.looks_findIn (M := model prog w) X hgh
 have T3 := PySem.W.looks_find (M := model prog w) X I hf
 have T4 := PySem.W.looks_mroIn (M := model prog w) X hb
 have hne : (onTheHeap (Value.ref D) && Value.builtin "BaseException.__getattribute__" == Value.builtin "object.__getattribute__") = false := by
  have z : (Value.builtin "BaseException.__getattribute__" == Value.builtin "object.__getattribute__") = false := by decide +kernel
  rw [z, Bool.and_false]
 unfold getAttr? getAttrBy?
 refine wpAny_bind (wpAny_mkText ?_)
 refine wpAny_bind (wpAny_attempt ?_)
 unfold getAttrBy
 refine wpAny_holding (wpAny_bind (T0.at ?_))
 refine wpAny_bind (T1.at ?_)
 dsimp only
 rw [hne, if_neg Bool.false_ne_true]
 unfold getAttrByItsOwn hookBefore
 rw [if_pos (show onTheHeap (Value.ref D) = true from rfl)]
 refine wpAny_bind (T2.at ?_)
 refine wpAny_bind (wpAny_attempt (wpAny_holding ?_))
 unfold callGetattribute boundAndCalled
 rw [Bool.false_and, if_neg Bool.false_ne_true, F.excAttr_ValueError.ga.bind]
 refine wpAny_bind (wpAny_pure ?_)
 refine wpAny_call (codeAny_call_builtin F.excAttr_ValueError.ga.plain F.entry_bexc_ga ?_)
 have k1 : builtinKind "BaseException.__getattribute__" = some .slot := by decide +kernel
 have k2 : splitId "BaseException.__getattribute__" = some ("BaseException", "__getattribute__") := by decide +kernel
 simp only [checkBuiltinCall, k1, k2]
 have ha := F.args_bexc_ga (.ref x) (.str "__class__" tk)
 have TI : PySem.W.Looks (model prog w) hp (isInstance (.ref x) (.type "BaseException")) true := T0.andThen T4
 show wpAny _ _ (isInstance (.ref x) (.type "BaseException") >>= _) _ _ _
 refine wpAny_bind (TI.at ?_)
 rw [if_neg (by decide)]
 unfold argsOk at ha
 refine wpAny_of_eq (a := ()) ha ?_
 unfold Builtin.«object.__getattribute__»
 refine wpAny_bind (wpAny_of_eq (a := (Value.ref x, [Value.str "__class__" tk])) rfl ?_)
 dsimp only
 refine wpAny_bind (wpAny_of_eq (a := ("__class__" : Str)) rfl ?_)
 refine wpAny_bind (T0.at ?_)
 refine wpAny_bind (T3.at ?_)
 show wpAny _ _ (holding [Value.builtin "object.__class__"] (call (.builtin "getset_descriptor.__get__") [.builtin "object.__class__", .ref x, .ref D]) >>= ret) _ _ _
 refine wpAny_bind (wpAny_holding (wpAny_call (PySem.W.class_get X I hm ?_)))
 refine wpAny_pure ?_
 exact PySem.W.handed_on rfl (wpAny_pure h)
end
theorem xcls_of {K : PySem.W.Frag} {C : Addr} (h : xclsB K C = true) : PySem.W.findIn K (.ref C) "__getattribute__" = some (some (.builtin "BaseException.__getattribute__")) ∧ PySem.W.findIn K (.ref C) "__getattr__" = some none ∧ PySem.W.mroIn K C (.type "BaseException") = some true ∧ (PySem.W.clsIn K C).isSome = true ∧
  PySem.W.findIn K (.ref C) "__class__" = some (some (.builtin "object.__class__")) ∧ PySem.W.specialIn K (.builtin "object.__class__") "__get__" = some (some (.builtin "getset_descriptor.__get__")) ∧ PySem.W.takesIn K (.builtin "object.__class__") = some true ∧ PySem.W.mroIn K C (.type "object") = some true := by
 unfold xclsB at h
 simp only [Bool.and_eq_true, beq_iff_eq] at h
 exact ⟨h.1.1.1.1.1.1.1.1, h.1.1.1.1.1.1.1.2, h.1.1.1.1.1.1.2, h.1.1.1.1.1.2, h.1.1.1.1.2, h.1.1.1.2, h.1.1.2, h.1.2⟩
theorem kitx_exc {K : PySem.W.Frag} {x C : Addr} {ox : Obj} (h : xclsB K C = true) : PySem.W.KitX K (.ref x) (.ref C) (fun g => PySem.W.InstAt g x ox C none) := by
 obtain ⟨g1, g2, g3, h2, h3, h4, h5, h6⟩ := xcls_of h
 obtain ⟨cd, hcd⟩ := Option.isSome_iff_exists.mp h2
 have hk : ∃ c d sl, K.lookup C = some ⟨c, d, .cls cd, sl⟩ := by
  unfold PySem.W.clsIn at hcd
  split at hcd
  ·cases hcd; exact ⟨_, _, _, by assumption⟩
  ·cases hcd
 obtain ⟨c0, d0, sl0, hk⟩ := hk
 have hf : PySem.W.findObj K C none "__class__" = some (.bind (.builtin "getset_descriptor.__get__") (.builtin "object.__class__")) := by
  unfold PySem.W.findObj
  rw [hcd, Option.bind_some, h3, Option.bind_some]
  simp [h4, h5]
 refine ⟨fun _ _ _ I => I.type, fun _ _ X _ => ?_, fun g tp dd its n sl X ht => ?_, fun X I k => ?_⟩
 ·intro A' Q' E' s' kk q
  unfold isType loadHead
  exact wpAny_bind (wpAny_loadPart (kk _ _ (X _ _ hk)) (wpAny_pure q))
 ·cases hz : (Value.ref C == Value.ref tp) with
  | false => rfl
  | true =>
   have e : C = tp := Value.ref.inj (beq_iff_eq.mp hz)
   rw [← e] at ht
   have z := (X _ _ hk).symm.trans ht
   cases z
 ·exact exc_class X I g1 g2 hf h6 g3 k
theorem exc_at {X : Cx} {pins : List (Addr × Obj)} {σ : St} {H : Hp} {s : Shared} {a C : Addr} (I : Inv X pins σ H s) (h : H a = some (.ext (isX a C))) : ∃ o, PySem.W.InstAt s.heap a o C none := by
 obtain ⟨⟨o, h1, h2, h3, h4⟩, _⟩ := (show ObjOk X.prog X.w H s.heap a (.ext (isX a C)) from I.hok a _ h)
 exact ⟨o, h1, h2, h4, by rw [h3]; trivial⟩
section
variable {X : Cx} {pins : List (Addr × Obj)} {σ : St} {H : Hp} {s : Shared} {B : Addr → Prop} {A : Around} {E : Value → Shared → Prop} {Q : Value → Shared → Prop}
theorem isinst_rep {d : D} {v : V} {u : Value} {T : String} (I : Inv X pins σ H s) (r : Rep X.K H B d v) (rv : RelV v u) (hT : IsT T) (h : ∀ tk, Q (.bool (isF T d)) { s with toks := tk }) : wpAny (model X.prog X.w) A (call (.builtin "isinstance") [u, .type T]) Q E s := by
 by_cases hd : ∃ x, d = .exc x
 ·obtain ⟨x, rfl⟩ := hd
  unfold Rep at r
  obtain ⟨a, C, rfl, _, hq, _, hx⟩ := r
  cases rv
  obtain ⟨o, ie⟩ := exc_at I hq
  have e : PySem.W.kitOne X.K (.ref C) (.type T) = some (isF T (.exc x)) := by
   have h6 := (Bool.and_eq_true_iff.mp hx).2
   rw [List.all_eq_true] at h6
   have h7 := beq_iff_eq.mp (h6 T (by cases hT <;> decide))
   rw [h7]
   cases hT <;> rfl
  exact PySem.W.kia_one (kitx_exc hx) I.kIn ie e (fun z => nomatch z) h
 have hd : ∀ x, d ≠ .exc x := fun x z => hd ⟨x, z⟩
 have e := kit_tt X.K hT d hd
 cases d with
 | exc x => exact absurd rfl (hd x)
 | non => cases r; cases rv; exact PySem.W.kia_one PySem.W.kitx_none I.kIn True.intro e (fun z => nomatch z) h
 | bl y => cases r; cases rv; exact PySem.W.kia_one PySem.W.kitx_bool I.kIn True.intro e (fun z => nomatch z) h
 | int i => cases r; obtain ⟨t, q⟩ := rv; cases q; exact PySem.W.kia_one PySem.W.kitx_int I.kIn True.intro e (fun z => nomatch z) h
 | str y => cases r; obtain ⟨t, q⟩ := rv; cases q; exact PySem.W.kia_one PySem.W.kitx_str I.kIn True.intro e (fun z => nomatch z) h
 | lst ds =>
  unfold Rep at r
  obtain ⟨a, xs, rfl, _, hq, _⟩ := r
  cases rv
  obtain ⟨its, _, ⟨o, n, e1, c, _⟩, _⟩ := I.list (SqL.of hq)
  exact PySem.W.kia_one PySem.W.kitx_list I.kIn ⟨o, e1, c⟩ e (fun z => nomatch z) h
 | tup ds =>
  unfold Rep at r
  obtain ⟨a, xs, rfl, hq, _⟩ := r
  cases rv
  obtain ⟨its, _, ⟨o, e1, c, _⟩, _⟩ := I.tuple hq
  exact PySem.W.kia_one PySem.W.kitx_tuple I.kIn ⟨o, e1, c⟩ e (fun z => nomatch z) h
 | scr ns =>
  unfold Rep at r
  obtain ⟨a, rfl, hq⟩ := r
  cases rv
  obtain ⟨its, _, ⟨o, n, e1, c, _⟩, _⟩ := I.list hq.sq
  exact PySem.W.kia_one PySem.W.kitx_list I.kIn ⟨o, e1, c⟩ e (fun z => nomatch z) h
 | dct ks ds =>
  unfold Rep at r
  obtain ⟨a, kvs, rfl, _, ea, _⟩ := r
  cases rv
  obtain ⟨_, _, vs, _, p⟩ := (show ObjOk X.prog X.w H s.heap a (.dK kvs) from I.hok a _ ea)
  obtain ⟨o, es, ep, h1, h2, _⟩ := p
  exact PySem.W.kia_one PySem.W.kitx_dict I.kIn ⟨o, h1, h2.1⟩ e (fun z => nomatch z) h
end
section
variable {X : Cx} {e : Expr} {p p2 pos : Pos}
def dIs (T : String) (f : DE) : DE := fun δ => (f δ).map fun d => .bl (isF T d)
theorem call_isR {T : String} (hT : IsT T) : CallR X (.builtin "isinstance") (fun xs H Q => ∃ B d v, xs = [v, .ty T] ∧ Rep X.K H B d v ∧ Q (.bl (isF T d)) H) := by
 intro pins s σ H xs us Q I r h
 obtain ⟨B, d, v, rfl, rv, q⟩ := h
 obtain ⟨u, w', rfl, r1, r2⟩ := vals2 r
 cases r2
 exact isinst_rep I rv r1 hT fun tk => ⟨.bl _, H, I.tok tk, rfl, q⟩
theorem pd_is {f : DE} {x : Str} {T : String} (hT : IsT T) (hb : bootBuiltins x = some (.type T)) (hx : Gl X x) (hmx : X.mg x = none) (hnx : x ≠ "__name__") (hdx : (x == ("__debug__" : Str)) = false) (hg : Gl X "isinstance") (hm : X.mg "isinstance" = none) (h : PD X e f)
  (he : starEach [e, .Name x p2] X.env = [(false, eval e X.env), (false, eval (.Name x p2) X.env)] := by rfl) (he2 : starEach [.Name x p2] X.env = [(false, eval (.Name x p2) X.env)] := by rfl) : PD X (.Call (.Name "isinstance" p) [e, .Name x p2] [] pos) (dIs T f) :=
 (pe_callB (call_isR hT) hg hm boot_isinstance (pa_cons h (pa_cons (pe_bltn (v := .ty T) hx hmx hb rfl hnx hdx) pa_nil he2) (by rw [he, he2])) (by decide) (by decide) (by rw [he, he2]) (by rw [he2]; rfl)).imp fun σ H Q ⟨B, δ, d, hB, S, q, k⟩ => by
  unfold dIs at q
  cases e1 : f δ with
  | none => rw [e1] at q; cases q
  | some d' =>
   rw [e1] at q
   cases q
   exact ⟨B, δ, d', hB, S, e1, fun v H1 s1 r1 => ⟨B, d', v, rfl, r1, k _ H1 s1 rfl⟩⟩
theorem pd_isBool {f : DE} (hx : Gl X "bool") (hmx : X.mg "bool" = none) (hg : Gl X "isinstance") (hm : X.mg "isinstance" = none) (h : PD X e f) (he : starEach [e, .Name "bool" p2] X.env = [(false, eval e X.env), (false, eval (.Name "bool" p2) X.env)] := by rfl) :
  PD X (.Call (.Name "isinstance" p) [e, .Name "bool" p2] [] pos) (dIs "bool" f) := pd_is .bool PyProof.Rows.Boot.«bool» hx hmx (by decide) (by decide) hg hm h he rfl
theorem pd_isInt {f : DE} (hx : Gl X "int") (hmx : X.mg "int" = none) (hg : Gl X "isinstance") (hm : X.mg "isinstance" = none) (h : PD X e f) (he : starEach [e, .Name "int" p2] X.env = [(false, eval e X.env), (false, eval (.Name "int" p2) X.env)] := by rfl) :
  PD X (.Call (.Name "isinstance" p) [e, .Name "int" p2] [] pos) (dIs "int" f) := pd_is .int PyProof.Rows.Boot.«int» hx hmx (by decide) (by decide) hg hm h he rfl
end
def dropB (i : Nat) : Option SD → Option SD
 | some (.bo r d) => if r = i then none else some (.bo r d)
 | o => o
def dropBs (i : Nat) (δ : SS) : SS := δ.map (dropB i)
theorem dropBs_get {i j : Nat} {δ : SS} {x : SD} (h : (dropBs i δ)[j]? = some (some x)) : δ[j]? = some (some x) ∧ ∀ d, x ≠ .bo i d := by
 unfold dropBs at h
 rw [List.getElem?_map] at h
 cases e : δ[j]? with
 | none => rw [e] at h; cases h
 | some o =>
  rw [e] at h
  have h' : dropB i o = some x := Option.some.inj h
  unfold dropB at h'
  split at h'
  ·rename_i r d
   split at h'
   ·cases h'
   ·rename_i hr
    cases h'
    exact ⟨rfl, fun d' z => by cases z; exact hr rfl⟩
  ·rename_i hn
   subst h'
   exact ⟨rfl, fun d z => hn i d (by rw [z])⟩
section
variable {K : PySem.W.Frag} {H0 H : Hp} {B0 : Addr → Prop} {σ : St} {δ : SS} {R : Nat → List Addr}
theorem RS.rewrite {Hold : Hp} {i : Nat} {d d' : D} {a : Addr} {o : HO} {v : V} {A' : List Addr} (h : RS K H0 B0 Hold σ δ R) (e : Same Hold H) (hi : δ[i]? = some (some (.ow d))) (hv : σ[i]? = some (some v)) (ha : a ∈ R i) (t : Tree K (upd H a o) d' v A') (nd : A'.Nodup) (sub : ∀ b ∈ A', b ∈ R i ∨ Hold b = none) :
  RS K H0 B0 (upd H a o) σ ((dropBs i δ).set i (some (.ow d'))) (setR R i A') ∧ Stp R Hold (setR R i A') (upd H a o) := by
 have hm := h.mono e
 obtain ⟨oa, ea, ma⟩ := hm.held i a ha
 have mH : Mut (H a) := by rw [ea]; exact ma
 have mem : ∀ r b, b ∈ setR R i A' r → b ∈ R r ∨ (r = i ∧ Hold b = none) := fun r b z => by
  by_cases hr : r = i
  ·subst hr; rw [setR_same] at z; exact (sub b z).imp id fun q => ⟨rfl, q⟩
  ·rw [setR_ne hr] at z; exact .inl z
 have kt : KeepI K H (upd H a o) := (Keep.upd (K := K) (B := fun x => x = a) rfl mH).i
 have nh : ∀ r b, b ∈ R r → Hold b = none → False := fun r b z q => by
  obtain ⟨u, q', _⟩ := h.held r b z
  rw [q] at q'; cases q'
 refine ⟨⟨fun b u q => ?_, h.inB, by simp [dropBs, h.len], fun r b z => ?_, fun r b z => ?_, fun r s b z z' => ?_, fun j d2 z => ?_, fun j r2 d2 z => ?_, fun j d2 z => ?_⟩, ⟨fun b u q n => ?_, fun r b z => ?_, fun b z => ?_⟩⟩
 ·have ne : b ≠ a := fun z => by subst z; rw [h.new i b ha] at q; cases q
  rw [upd_ne ne]; exact hm.keep b u q
 ·rcases mem r b z with z | ⟨_, z⟩
  ·exact h.new r b z
  ·exact h.keep.free z
 ·by_cases hr : r = i
  ·subst hr; rw [setR_same] at z; exact t.held d' b z
  ·rw [setR_ne hr] at z
   have ne : b ≠ a := fun q => hr (h.disj r i b z (q ▸ ha))
   rw [upd_ne ne]; exact hm.held r b z
 ·rcases mem r b z with z | ⟨z1, z2⟩ <;> rcases mem s b z' with z' | ⟨z1', z2'⟩
  ·exact h.disj r s b z z'
  ·exact (nh r b z z2').elim
  ·exact (nh s b z' z2).elim
  ·rw [z1, z1']
 ·rcases get_set z with ⟨rfl, q, _⟩ | ⟨hj, q⟩
  ·cases q
  ·obtain ⟨q1, _⟩ := dropBs_get q
   obtain ⟨w, e1, r⟩ := h.sh j d2 q1
   have r2 := (Rep.wide (C := fun b => Hold b = none) (fun _ z => z) d2 r).mono e
   refine ⟨w, e1, Rep.anti ?_ d2 (Rep.keep (.upd (.inl (.inr ⟨i, ha⟩)) mH) d2 r2)⟩
   rintro b (z | ⟨r, z⟩)
   ·exact .inl (.inl z)
   ·rcases mem r b z with z | ⟨_, z⟩
    ·exact .inl (.inr ⟨r, z⟩)
    ·exact .inr z
 ·rcases get_set z with ⟨rfl, q, _⟩ | ⟨hj, q⟩
  ·cases q
  ·obtain ⟨q1, q2⟩ := dropBs_get q
   have hr : i ≠ r2 := fun e => q2 d2 (by rw [e])
   obtain ⟨w, e1, r⟩ := h.bo j r2 d2 q1
   have r3 := (Rep.wide (C := fun b => Hold b = none) (fun _ z => z) d2 r).mono e
   refine ⟨w, e1, Rep.anti ?_ d2 (Rep.keep (.upd (.inl (.inr ⟨i, hr, ha⟩)) mH) d2 r3)⟩
   rintro b (z | ⟨s, hs, z⟩)
   ·exact .inl (.inl z)
   ·rcases mem s b z with z | ⟨_, z⟩
    ·exact .inl (.inr ⟨s, hs, z⟩)
    ·exact .inr z
 ·rcases get_set z with ⟨rfl, q, _⟩ | ⟨hj, q⟩
  ·cases q
   rw [setR_same]
   exact ⟨v, hv, t, nd⟩
  ·obtain ⟨q1, _⟩ := dropBs_get q
   obtain ⟨w, e1, t', nd'⟩ := hm.ow j d2 q1
   rw [setR_ne hj]
   refine ⟨w, e1, Tree.keep kt d2 t' fun b hb u q => ?_, nd'⟩
   have ne : b ≠ a := fun z => by subst z; exact hj (h.disj j i b hb ha)
   rw [upd_ne ne]; exact q
 ·have ne : b ≠ a := fun z => n i (z ▸ ha)
  rw [upd_ne ne]; exact e b u q
 ·rcases mem r b z with z | ⟨_, z⟩
  ·exact .inl ⟨r, z⟩
  ·exact .inr z
 ·by_cases hb : b = a
  ·subst hb; rw [upd_same] at z; cases z
  ·rw [upd_ne hb] at z; exact e.free z
mutual
theorem Tree.flat : ∀ (d : D) {v : V} {A : List Addr}, d.imm = true → Tree K H d v A → A = []
 | .non, _, _, _, h => h.2
 | .bl _, _, _, _, h => h.2
 | .int _, _, _, _, h => h.2
 | .str _, _, _, _, h => h.2
 | .lst _, _, _, i, _ => by unfold D.imm at i; cases i
 | .dct _ _, _, _, i, _ => by unfold D.imm at i; cases i
 | .exc _, _, _, i, _ => by unfold D.imm at i; cases i
 | .tup ds, _, _, i, h => by
  unfold D.imm at i
  unfold Tree at h
  obtain ⟨a, xs, _, _, r⟩ := h
  exact Trees.flat ds i r
 | .scr _, _, _, _, h => h.2
theorem Trees.flat : ∀ (ds : List D) {xs : List V} {A : List Addr}, imms ds = true → Trees K H ds xs A → A = []
 | [], _, _, _, h => h.2
 | d :: ds, _, _, i, h => by
  unfold imms at i
  rw [Bool.and_eq_true] at i
  unfold Trees at h
  obtain ⟨x, r, C, C', rfl, h1, h2, rfl⟩ := h
  rw [Trees.flat ds i.2 h2, List.append_nil]
  exact Tree.flat d i.1 h1
end
theorem Trees.append : ∀ {ds es : List D} {xs ys : List V} {A C : List Addr}, Trees K H ds xs A → Trees K H es ys C → Trees K H (ds ++ es) (xs ++ ys) (A ++ C)
 | [], _, _, _, _, _, h, h' => by obtain ⟨rfl, rfl⟩ := h; exact h'
 | d :: ds, es, _, ys, _, C, h, h' => by
  unfold Trees at h
  obtain ⟨y, r, A1, A2, rfl, h1, h2, rfl⟩ := h
  exact (show Trees K H (d :: (ds ++ es)) (y :: (r ++ ys)) (A1 ++ A2 ++ C) by unfold Trees; exact ⟨y, _, A1, A2 ++ C, rfl, h1, Trees.append h2 h', List.append_assoc _ _ _⟩)
theorem Trees.split : ∀ {ds : List D} {xs : List V} {A : List Addr} (k : Nat), Trees K H ds xs A → ∃ A1 A2, A = A1 ++ A2 ∧ Trees K H (ds.take k) (xs.take k) A1 ∧ Trees K H (ds.drop k) (xs.drop k) A2
 | ds, xs, A, 0, h => ⟨[], A, rfl, by rw [List.take_zero, List.take_zero]; exact ⟨rfl, rfl⟩, h⟩
 | [], _, _, k + 1, h => by
  obtain ⟨rfl, rfl⟩ := h
  exact ⟨[], [], rfl, ⟨rfl, rfl⟩, ⟨rfl, rfl⟩⟩
 | d :: ds, _, _, k + 1, h => by
  unfold Trees at h
  obtain ⟨y, r, A1, A2, rfl, h1, h2, rfl⟩ := h
  obtain ⟨C1, C2, rfl, h3, h4⟩ := Trees.split k h2
  refine ⟨A1 ++ C1, C2, (List.append_assoc _ _ _).symm, ?_, h4⟩
  rw [List.take_succ_cons, List.take_succ_cons]
  unfold Trees
  exact ⟨y, _, A1, C1, rfl, h1, h3, rfl⟩
theorem Trees.one {d : D} {x : V} {A : List Addr} (h : Tree K H d x A) : Trees K H [d] [x] A := by
 unfold Trees
 exact ⟨x, [], A, [], rfl, h, ⟨rfl, rfl⟩, (List.append_nil _).symm⟩
theorem Trees.length : ∀ {ds : List D} {xs : List V} {A : List Addr}, Trees K H ds xs A → ds.length = xs.length
 | [], _, _, h => by obtain ⟨rfl, _⟩ := h; rfl
 | d :: ds, _, _, h => by
  unfold Trees at h
  obtain ⟨x, r, _, _, rfl, _, h2, _⟩ := h
  simp [Trees.length h2]
theorem RS.top {i : Nat} {ds : List D} (h : RS K H0 B0 H σ δ R) (hi : δ[i]? = some (some (.ow (.lst ds)))) : ∃ a xs A, σ[i]? = some (some (.ref a)) ∧ H a = some (.lst xs) ∧ Trees K H ds xs A ∧ R i = a :: A ∧ (a :: A).Nodup := by
 obtain ⟨v, e, t, nd⟩ := h.ow i _ hi
 unfold Tree at t
 obtain ⟨a, xs, A, rfl, ha, ts, e2⟩ := t
 rw [e2] at nd
 exact ⟨a, xs, A, e, ha, ts, e2, nd⟩
theorem RS.put0 {Hold : Hp} {i : Nat} {ds ds' : List D} {a : Addr} {xs' : List V} {A A' : List Addr} (h : RS K H0 B0 Hold σ δ R) (e : Same Hold H) (hi : δ[i]? = some (some (.ow (.lst ds)))) (hv : σ[i]? = some (some (.ref a))) (hR : R i = a :: A) (nd : (a :: A).Nodup)
  (t : Trees K H ds' xs' A') (nd' : A'.Nodup) (sub : ∀ b ∈ A', b ∈ A ∨ Hold b = none) : RS K H0 B0 (upd H a (.lst xs')) σ ((dropBs i δ).set i (some (.ow (.lst ds')))) (setR R i (a :: A')) ∧ Stp R Hold (setR R i (a :: A')) (upd H a (.lst xs')) := by
 have ha : a ∈ R i := by rw [hR]; exact List.mem_cons_self
 obtain ⟨oa, ea, ma⟩ := h.held i a ha
 have nA : ∀ b ∈ A', b ≠ a := fun b hb z => by
  rcases sub b hb with q | q
  ·exact (List.nodup_cons.mp nd).1 (z ▸ q)
  ·rw [z, ea] at q; cases q
 have mH : Mut (H a) := by rw [e a oa ea]; exact ma
 refine h.rewrite e hi hv ha ?_ (List.nodup_cons.mpr ⟨fun z => nA a z rfl, nd'⟩) fun b hb => ?_
 ·unfold Tree
  refine ⟨a, xs', A', rfl, upd_same, Trees.keep (Keep.upd (K := K) (B := fun x => x = a) rfl mH).i ds' t fun b hb o q => ?_, rfl⟩
  rw [upd_ne (nA b hb)]; exact q
 ·rw [hR]
  rcases List.mem_cons.mp hb with z | z
  ·rw [z]; exact .inl List.mem_cons_self
  ·exact (sub b z).imp (List.mem_cons_of_mem _) id
theorem Trees.set1 {es : List D} : ∀ {ds : List D} {xs : List V} {A : List Addr} (k : Nat), Trees K H ds xs A → A.Nodup → ds[k]? = some (.lst es) → imms es = true →
  ∃ b ys, xs[k]? = some (.ref b) ∧ H b = some (.lst ys) ∧ b ∈ A ∧ Trees K H es ys [] ∧ ∀ es' ys', Trees K H es' ys' [] → Trees K (upd H b (.lst ys')) (ds.set k (.lst es')) xs A
 | [], _, _, _, _, _, e, _ => by simp at e
 | d :: ds, _, _, 0, h, nd, e, hi => by
  simp at e
  subst e
  unfold Trees at h
  obtain ⟨x, r, A1, A2, rfl, h1, h2, rfl⟩ := h
  unfold Tree at h1
  obtain ⟨b, ys, C, rfl, hb, tb, rfl⟩ := h1
  have eC := Trees.flat es hi tb
  subst eC
  have mH : Mut (H b) := by rw [hb]; exact trivial
  have kt : ∀ o, KeepI K H (upd H b o) := fun o => (Keep.upd (K := K) (B := fun x => x = b) (o := o) rfl mH).i
  refine ⟨b, ys, rfl, hb, by simp, tb, fun es' ys' t' => ?_⟩
  rw [List.set_cons_zero]
  unfold Trees
  refine ⟨.ref b, r, [b], A2, rfl, ?_, Trees.keep (kt _) ds h2 fun c hc o q => ?_, rfl⟩
  ·unfold Tree
   exact ⟨b, ys', [], rfl, upd_same, Trees.keep (kt _) es' t' (fun c hc => nomatch hc), rfl⟩
  ·have ne : c ≠ b := fun z => (List.nodup_cons.mp nd).1 (by rw [← z]; exact hc)
   rw [upd_ne ne]; exact q
 | d :: ds, _, _, k + 1, h, nd, e, hi => by
  unfold Trees at h
  obtain ⟨x, r, A1, A2, rfl, h1, h2, rfl⟩ := h
  have ndA := List.nodup_append.mp nd
  obtain ⟨b, ys, e1, hb, hbA, tb, up⟩ := Trees.set1 k h2 ndA.2.1 (by simpa using e) hi
  refine ⟨b, ys, by simpa using e1, hb, List.mem_append_right _ hbA, tb, fun es' ys' t' => ?_⟩
  have mH : Mut (H b) := by rw [hb]; exact trivial
  have kt : KeepI K H (upd H b (.lst ys')) := (Keep.upd (K := K) (B := fun x => x = b) rfl mH).i
  rw [List.set_cons_succ]
  unfold Trees
  refine ⟨x, r, A1, A2, rfl, Tree.keep kt d h1 fun c hc o q => ?_, up es' ys' t', rfl⟩
  have ne : c ≠ b := fun z => ndA.2.2 c hc b hbA z
  rw [upd_ne ne]; exact q
theorem RS.put1 {Hold : Hp} {i k : Nat} {ds es : List D} (h : RS K H0 B0 Hold σ δ R) (e : Same Hold H) (hi : δ[i]? = some (some (.ow (.lst ds)))) (hk : ds[k]? = some (.lst es)) (hm : imms es = true) :
  ∃ a xs b ys, σ[i]? = some (some (.ref a)) ∧ Hold a = some (.lst xs) ∧ xs[k]? = some (.ref b) ∧ Hold b = some (.lst ys) ∧ ds.length = xs.length ∧ Trees K H es ys [] ∧ ∀ es' ys', Trees K H es' ys' [] →
   RS K H0 B0 (upd H b (.lst ys')) σ ((dropBs i δ).set i (some (.ow (.lst (ds.set k (.lst es')))))) (setR R i (R i)) ∧ Stp R Hold (setR R i (R i)) (upd H b (.lst ys')) := by
 obtain ⟨a, xs, A, ev, ha, ts, eR, nd⟩ := h.top hi
 obtain ⟨b, ys, e1, hb, hbA, tb, _⟩ := Trees.set1 k ts (List.nodup_cons.mp nd).2 hk hm
 obtain ⟨b', ys', e1', hb', _, tb', up⟩ := Trees.set1 k (ts.mono e) (List.nodup_cons.mp nd).2 hk hm
 rw [e1] at e1'
 cases e1'
 refine ⟨a, xs, b, ys, ev, ha, e1, hb, ts.length, tb.mono e, fun es' zs t' => ?_⟩
 have hba : b ∈ R i := by rw [eR]; exact List.mem_cons_of_mem _ hbA
 have nba : a ≠ b := fun z => (List.nodup_cons.mp nd).1 (z ▸ hbA)
 refine h.rewrite e hi ev hba ?_ (by rw [eR]; exact nd) fun c hc => .inl hc
 rw [eR]
 unfold Tree
 exact ⟨a, xs, A, rfl, by rw [upd_ne nba]; exact e _ _ ha, up es' zs t', rfl⟩
end
end L2
namespace L2
open PySem PySem.Spec PyProof.Rows
instance {i j : Int} : Decidable (CDiv i j) := by unfold CDiv; infer_instance
instance {i j : Int} : Decidable (CPow i j) := by unfold CPow; infer_instance
instance {i j : Int} : Decidable (CMul i j) := by unfold CMul; infer_instance
def LM (K : PySem.W.Frag) (r : V → List V → Hp → VK → Prop) (F : List D → List D → Option (List D)) : Prop :=
 ∀ (H : Hp) (a : Addr) (xs : List V) (ds args : List D) (vs : List V) (ds' : List D) (Q : VK), H a = some (.lst xs) → ds.length = xs.length → Reps K H noB args vs → F ds args = some ds' →
  (∀ (w : V) (xs' : List V), (∀ (H2 : Hp) (A C : List Addr), Trees K H2 ds xs A → Trees K H2 args vs C → ∃ A', Trees K H2 ds' xs' A' ∧ ((A ++ C).Nodup → A'.Nodup) ∧ ∀ b ∈ A', b ∈ A ∨ b ∈ C) → Q w (upd H a (.lst xs'))) → r (.ref a) vs H Q
def appF : List D → List D → Option (List D) := fun ds args => match args with
 | [d] => if ds.length < sizeLine then some (ds ++ [d]) else none
 | _ => none
theorem lm_append {K : PySem.W.Frag} : LM K rAppend appF := by
 intro H a xs ds args vs ds' Q ha hl hr q k
 unfold appF at q
 split at q
 ·rename_i d
  split at q
  ·rename_i hz
   cases q
   obtain ⟨y, rfl, ry⟩ := reps1 hr
   refine ⟨a, xs, y, rfl, rfl, ha, by rw [← hl]; exact hz, k _ _ fun H2 A C t tc => ⟨A ++ C, t.append tc, fun z => z, fun b hb => List.mem_append.mp hb⟩⟩
  ·cases q
 ·cases q
def insK (n : Nat) (i : Int) : Nat := if i < 0 then (i + (n : Int)).toNat else min i.toNat n
def rInsert : V → List V → Hp → VK → Prop := fun x vs H Q => ∃ l xs i y, x = .ref l ∧ vs = [.int i, y] ∧ H l = some (.lst xs) ∧ xs.length < sizeLine ∧ -(2 ^ 63) ≤ i ∧ i < 2 ^ 63 ∧ Q .non (upd H l (.lst (xs.take (insK xs.length i) ++ y :: xs.drop (insK xs.length i))))
theorem ins_arr (its : List Value) (k : Nat) (y : Value) : (its.toArray.extract 0 k).push y ++ its.toArray.extract k = (its.take k ++ y :: its.drop k).toArray := by
 apply Array.ext'
 simp
 rw [List.take_of_length_le (by simp)]
theorem mt_insert {X : Cx} : MtM X "list.insert" rInsert := by
 intro pins s σ H x vs v us Q I rx rv h
 obtain ⟨l, xs, i, y, rfl, rfl, hH, hz, h1, h2, q⟩ := h
 cases rx
 obtain ⟨u, w', rfl, ⟨t, rfl⟩, ry⟩ := rv.two
 obtain ⟨z, its, n, r, hl, e⟩ := I.lstM hH
 have hfit : Builtin.List.listFitsIndex i = true := fitsIndex_both h1 h2
 refine call_meets F.slot_list_insert ⟨_, e, rfl⟩ F.entry_list_insert (F.args_list_insert_3 _ _ _)
  (AutoSeq1.list_insert_list_int_val_1 l its.toArray n i t w' (by rw [hfit]; decide) (by rw [List.size_toArray]; omega)) ⟨e, ?_⟩
 refine ⟨.non, _, I.lset (its' := its.take (insK its.length i) ++ w' :: its.drop (insK its.length i)) (ys := xs.take (insK xs.length i) ++ y :: xs.drop (insK xs.length i)) hH e ?_ ?_ ?_, rfl, q⟩
 ·show (its.toArray.extract 0 (if i < 0 then (i + (its.toArray.size : Int)).toNat else min i.toNat its.toArray.size)).push w' ++ its.toArray.extract (if i < 0 then (i + (its.toArray.size : Int)).toNat else min i.toNat its.toArray.size) = _
  rw [ins_arr, List.size_toArray]
  rfl
 ·rw [← hl]
  exact (r.take _).append (.cons ry (r.drop _))
 ·have : insK xs.length i ≤ xs.length ∨ ¬ insK xs.length i ≤ xs.length := Decidable.em _
  simp only [List.length_append, List.length_take, List.length_cons, List.length_drop]
  omega
def insF : List D → List D → Option (List D) := fun ds args => match args with
 | [.int i, d] => if ds.length < sizeLine ∧ -(2 ^ 63) ≤ i ∧ i < 2 ^ 63 then some (ds.take (insK ds.length i) ++ d :: ds.drop (insK ds.length i)) else none
 | _ => none
theorem nodup_mid {A1 A2 C : List Addr} (h : (A1 ++ A2 ++ C).Nodup) : (A1 ++ (C ++ A2)).Nodup := by
 have p : (A1 ++ A2 ++ C).Perm (A1 ++ (C ++ A2)) := by
  rw [List.append_assoc]
  exact List.Perm.append_left _ List.perm_append_comm
 exact p.nodup_iff.mp h
theorem lm_insert {K : PySem.W.Frag} : LM K rInsert insF := by
 intro H a xs ds args vs ds' Q ha hl hr q k
 unfold insF at q
 split at q
 ·rename_i i d
  split at q
  ·rename_i hz
   cases q
   obtain ⟨v, y, rfl, rv, ry⟩ := reps2 hr
   cases (show v = V.int i from rv)
   refine ⟨a, xs, i, y, rfl, rfl, ha, by rw [← hl]; exact hz.1, hz.2.1, hz.2.2, k _ _ fun H2 A C t tc => ?_⟩
   rw [← hl]
   obtain ⟨A1, A2, rfl, t1, t2⟩ := t.split (insK ds.length i)
   unfold Trees at tc
   obtain ⟨x1, r1, C1, C2, e1, h1, h2, rfl⟩ := tc
   cases e1
   obtain ⟨_, eC1⟩ := (show V.int i = V.int i ∧ C1 = [] from h1)
   subst eC1
   unfold Trees at h2
   obtain ⟨x2, r2, C3, C4, e2, h3, h4, rfl⟩ := h2
   cases e2
   obtain ⟨_, rfl⟩ := h4
   refine ⟨A1 ++ (C3 ++ A2), t1.append ?_, fun z => ?_, fun b hb => ?_⟩
   ·unfold Trees
    exact ⟨_, _, C3, A2, rfl, h3, t2, rfl⟩
   ·simp only [List.nil_append, List.append_nil] at z
    exact nodup_mid z
   ·simp only [List.nil_append, List.append_nil, List.mem_append] at hb ⊢
    rcases hb with z | z | z
    ·exact .inl (.inl z)
    ·exact .inr z
    ·exact .inl (.inr z)
  ·cases q
 ·cases q
def popF : List D → List D → Option (List D) := fun ds args => match args with
 | [.int i] => (ixN ds.length i).bind fun j => if ds.length ≤ sizeLine then some (ds.eraseIdx j) else none
 | _ => none
theorem Trees.erase {K : PySem.W.Frag} {H : Hp} : ∀ {ds : List D} {xs : List V} {A : List Addr} (k : Nat), Trees K H ds xs A → ∃ A', Trees K H (ds.eraseIdx k) (xs.eraseIdx k) A' ∧ A'.Sublist A
 | [], _, _, _, h => by
  obtain ⟨rfl, rfl⟩ := h
  exact ⟨[], ⟨rfl, rfl⟩, List.Sublist.refl _⟩
 | d :: ds, _, _, 0, h => by
  unfold Trees at h
  obtain ⟨x, r, A1, A2, rfl, h1, h2, rfl⟩ := h
  exact ⟨A2, h2, List.sublist_append_right _ _⟩
 | d :: ds, _, _, k + 1, h => by
  unfold Trees at h
  obtain ⟨x, r, A1, A2, rfl, h1, h2, rfl⟩ := h
  obtain ⟨A', t, sb⟩ := Trees.erase k h2
  refine ⟨A1 ++ A', ?_, List.Sublist.append_left sb _⟩
  rw [List.eraseIdx_cons_succ, List.eraseIdx_cons_succ]
  unfold Trees
  exact ⟨x, _, A1, A', rfl, h1, t, rfl⟩
theorem lm_pop {K : PySem.W.Frag} : LM K rPopAt popF := by
 intro H a xs ds args vs ds' Q ha hl hr q k
 unfold popF at q
 split at q
 ·rename_i i
  cases e : ixN ds.length i with
  | none => rw [e] at q; cases q
  | some j =>
   rw [e] at q
   have q' : (if ds.length ≤ sizeLine then some (ds.eraseIdx j) else none) = some ds' := q
   split at q'
   ·rename_i hz
    cases q'
    obtain ⟨v, rfl, rv⟩ := reps1 hr
    cases (show v = V.int i from rv)
    obtain ⟨h1, h2, h3, h4⟩ := ixN_seq e
    have hs : sizeLine = 16777216 := sizeLine_eq
    have hj : j < xs.length := by omega
    refine ⟨a, xs, i, j, xs[j], rfl, rfl, ha, by omega, by omega, by rw [← hl]; exact h1, by rw [List.getElem?_eq_getElem hj], k _ _ fun H2 A C t tc => ?_⟩
    obtain ⟨A', t', sb⟩ := t.erase j
    exact ⟨A', t', fun z => (List.nodup_append.mp z).1.sublist sb, fun b hb => .inl (sb.subset hb)⟩
   ·cases q'
 ·cases q
section
variable {X : Cx} {H0 : Hp} {B0 : Addr → Prop} {fr : Bool} {RX : XR} {e e2 : Expr} {es : List Expr} {pos ap cp : Pos} {x name : Str} {px p2 : Pos} {bid : String} {r : V → List V → Hp → VK → Prop} {F : List D → List D → Option (List D)} {fl : List DE}
def m0 (i : Nat) (F : List D → List D → Option (List D)) (fl : List DE) : SS → Option Out := fun δ => (dArgs fl (allV δ)).bind fun args => if imms args = true then (match δ[i]? with
 | some (some (.ow (.lst ds))) => (F ds args).map fun ds' => .nx ((dropBs i δ).set i (some (.ow (.lst ds'))))
 | _ => none) else none
theorem m0_core {i : Nat} {to : TE} (hL : LM X.K r F) (hto : to = tVar i) (D : Ends) (σ : St) (H : Hp) (h : tS X.K H0 B0 fr RX (m0 i F fl) D σ H) : tDrop (tBM X.K "list" r to (tDs X.K (dArgs fl))) D σ H := by
 subst hto
 obtain ⟨δ, R, o, rs, q, k⟩ := h
 unfold m0 at q
 cases e1 : dArgs fl (allV δ) with
 | none => rw [e1] at q; cases q
 | some args =>
  rw [e1] at q
  have q : (if imms args = true then (match δ[i]? with | some (some (.ow (.lst ds))) => (F ds args).map fun ds' => Out.nx ((dropBs i δ).set i (some (.ow (.lst ds')))) | _ => none) else none) = some o := q
  split at q
  case isFalse => cases q
  case isTrue hi =>
  split at q
  case h_2 => cases q
  case h_1 ds ei =>
  cases e2 : F ds args with
  | none => rw [e2] at q; cases q
  | some ds' =>
   rw [e2] at q
   cases q
   obtain ⟨a, xs, A, ev, ha, ts, eR, nd⟩ := rs.top ei
   refine ⟨.ref a, ev, .inl ⟨rfl, xs, SqL.of ha⟩, noB, allV δ, args, .no, rs.all, e1, fun vs H2 s2 r2 => ?_⟩
   refine hL H2 a xs ds args vs ds' _ (s2 _ _ ha) ts.length r2 e2 fun w xs' up => ?_
   obtain ⟨A', t', n', sub⟩ := up H2 A [] (ts.mono s2) (r2.immTree args hi)
   have P := rs.put0 s2 ei ev eR nd t' (n' (by rw [List.append_nil]; exact (List.nodup_cons.mp nd).2)) fun b hb => (sub b hb).imp id (fun z => nomatch z)
   exact k σ _ _ P.1 P.2
theorem s_m0 {i : Nat} (slot : Slot "list" name bid) (hty : typeOf (.builtin bid) = pure (.type "method_descriptor")) (hm : MtM X bid r) (hL : LM X.K r F) (hx : PE X (.Name x px) (tVar i)) (ha : PAD X (e :: es) fl)
  (hbase : attributeBase (.Name x px) name X.env (eval (.Name x px) X.env) = eval (.Name x px) X.env := by rfl)
  (hfew : ((backTo cp (starEach (e :: es) X.env)).all (fun x => !x.1) && (backToKw cp (keywordEach [] X.env)).all (fun x => x.1.isSome) && decide ((e :: es).length + ([] : List Keyword).length + (if ([] : List Keyword).isEmpty then 0 else 1) < 30)) = true := by rfl)
  (hline : (ap.endLine == cp.line) = true := by rfl) (hs : starEach (e :: es) X.env = (false, eval e X.env) :: starEach es X.env := by rfl) (hplain : (backTo cp (starEach es X.env)).any (·.1) = false := by rfl)
  (hsw : swapsWith (.Call (.Attribute (.Name x px) name ap) (e :: es) [] cp) none pos.line X.env = pure false := by rfl) :
  PS X (.Expr (.Call (.Attribute (.Name x px) name ap) (e :: es) [] cp) pos) (tS X.K H0 B0 fr RX (m0 i F fl)) :=
 PS.imp (ps_expr (pe_bm PySem.F.plainAttrs_list slot hty hm hx ha hbase hfew hline hs hplain) hsw) (m0_core hL rfl)
def m1 (i : Nat) (fk : DE) (F : List D → List D → Option (List D)) (fl : List DE) : SS → Option Out := fun δ => (fk (allV δ)).bind fun dk => match dk with
 | .int k => (dArgs fl (allV δ)).bind fun args => if imms args = true then (match δ[i]? with
  | some (some (.ow (.lst ds))) => (ixN ds.length k).bind fun j => match ds[j]? with
   | some (.lst es) => if imms es = true then (F es args).bind fun es' => if imms es' = true then some (.nx ((dropBs i δ).set i (some (.ow (.lst (ds.set j (.lst es'))))))) else none else none
   | _ => none
  | _ => none) else none
 | _ => none
theorem m1_core {i : Nat} {fk : DE} (hL : LM X.K r F) (D : Ends) (σ : St) (H : Hp) (h : tS X.K H0 B0 fr RX (m1 i fk F fl) D σ H) : tDrop (tBM X.K "list" r (tOp (rIxL X.K) (tVar i) (tD X.K fk)) (tDs X.K (dArgs fl))) D σ H := by
 obtain ⟨δ, R, o, rs, q, kk⟩ := h
 unfold m1 at q
 cases ek : fk (allV δ) with
 | none => rw [ek] at q; cases q
 | some dk =>
 rw [ek] at q
 cases dk with
 | int k =>
  cases e1 : dArgs fl (allV δ) with
  | none =>
   have q : ((dArgs fl (allV δ)).bind _) = some o := q
   rw [e1] at q; cases q
  | some args =>
   have q : ((dArgs fl (allV δ)).bind _) = some o := q
   rw [e1] at q
   have q : (if imms args = true then (match δ[i]? with
    | some (some (.ow (.lst ds))) => (ixN ds.length k).bind fun j => match ds[j]? with
     | some (.lst es) => if imms es = true then (F es args).bind fun es' => if imms es' = true then some (Out.nx ((dropBs i δ).set i (some (.ow (.lst (ds.set j (.lst es'))))))) else none else none
     | _ => none
    | _ => none) else none) = some o := q
   split at q
   case isFalse => cases q
   case isTrue hi =>
   split at q
   case h_2 => cases q
   case h_1 ds ei =>
   cases ej : ixN ds.length k with
   | none => rw [ej] at q; cases q
   | some j =>
    rw [ej] at q
    have q : (match ds[j]? with | some (.lst es) => if imms es = true then (F es args).bind fun es' => if imms es' = true then some (Out.nx ((dropBs i δ).set i (some (.ow (.lst (ds.set j (.lst es'))))))) else none else none | _ => none) = some o := q
    split at q
    case h_2 => cases q
    case h_1 es ed =>
    split at q
    case isFalse => cases q
    case isTrue hes =>
    cases eF : F es args with
    | none => rw [eF] at q; cases q
    | some es' =>
     rw [eF] at q
     have q : (if imms es' = true then some (Out.nx ((dropBs i δ).set i (some (.ow (.lst (ds.set j (.lst es'))))))) else none) = some o := q
     split at q
     case isFalse => cases q
     case isTrue hes' =>
     cases q
     obtain ⟨a, xs, b, ys, ev, ha, hxb, hb, hln, _, _⟩ := rs.put1 (.refl H) ei ed hes
     refine ⟨.ref a, ev, noB, allV δ, .int k, .no, rs.all, ek, fun v1 H1 s1 r1 => ?_⟩
     cases (show v1 = V.int k from r1)
     have hat : atI xs k = some (.ref b) := by
      unfold atI
      rw [← hln, ej]
      exact hxb
     refine ⟨a, xs, k, .ref b, rfl, rfl, SqL.of (s1 _ _ ha), hat, .inl ⟨rfl, ys, SqL.of (s1 _ _ hb)⟩, noB, allV δ, args, .no, rs.all.mono s1, e1, fun vs H2 s2 r2 => ?_⟩
     obtain ⟨a', xs', b', ys', ev', ha', hxb', hb', _, tb, up⟩ := rs.put1 (s1.trans s2) ei ed hes
     rw [ev] at ev'; cases ev'
     rw [ha] at ha'; cases ha'
     rw [hxb] at hxb'; cases hxb'
     rw [hb] at hb'; cases hb'
     refine hL H2 b ys es args vs es' _ (s2 _ _ (s1 _ _ hb)) tb.length r2 eF fun w zs up2 => ?_
     obtain ⟨A', t', _, sub⟩ := up2 H2 [] [] tb (r2.immTree args hi)
     have eA : A' = [] := Trees.flat es' hes' t'
     subst eA
     have P := up es' zs t'
     exact kk σ _ _ P.1 P.2
 | _ => cases q
theorem s_m1 {i : Nat} {fk : DE} {ke : Expr} (slot : Slot "list" name bid) (hty : typeOf (.builtin bid) = pure (.type "method_descriptor")) (hm : MtM X bid r) (hL : LM X.K r F) (hx : PE X (.Name x px) (tVar i)) (hk : PD X ke fk) (ha : PAD X (e :: es) fl) (hpi : PlainIx ke := by intro _ _; rfl)
  (hbase : attributeBase (.Subscript (.Name x px) ke p2) name X.env (eval (.Subscript (.Name x px) ke p2) X.env) = eval (.Subscript (.Name x px) ke p2) X.env := by rfl)
  (hfew : ((backTo cp (starEach (e :: es) X.env)).all (fun x => !x.1) && (backToKw cp (keywordEach [] X.env)).all (fun x => x.1.isSome) && decide ((e :: es).length + ([] : List Keyword).length + (if ([] : List Keyword).isEmpty then 0 else 1) < 30)) = true := by rfl)
  (hline : (ap.endLine == cp.line) = true := by rfl) (hs : starEach (e :: es) X.env = (false, eval e X.env) :: starEach es X.env := by rfl) (hplain : (backTo cp (starEach es X.env)).any (·.1) = false := by rfl)
  (hsw : swapsWith (.Call (.Attribute (.Subscript (.Name x px) ke p2) name ap) (e :: es) [] cp) none pos.line X.env = pure false := by rfl) :
  PS X (.Expr (.Call (.Attribute (.Subscript (.Name x px) ke p2) name ap) (e :: es) [] cp) pos) (tS X.K H0 B0 fr RX (m1 i fk F fl)) :=
 PS.imp (ps_expr (pe_bm PySem.F.plainAttrs_list slot hty hm (pe_ix ix_list hx hk hpi) ha hbase hfew hline hs hplain) hsw) (m1_core hL)
def st0 (i : Nat) (fk fv : DE) : SS → Option Out := fun δ => (fv (allV δ)).bind fun d => if d.imm = true then (fk (allV δ)).bind fun dk => (match dk, δ[i]? with
 | .int k, some (some (.ow (.lst ds))) => (ixN ds.length k).map fun j => .nx ((dropBs i δ).set i (some (.ow (.lst (ds.set j d)))))
 | _, _ => none) else none
def st1 (i : Nat) (fk fj fv : DE) : SS → Option Out := fun δ => (fv (allV δ)).bind fun d => if d.imm = true then (fk (allV δ)).bind fun dk => (fj (allV δ)).bind fun dj => (match dk, dj, δ[i]? with
 | .int k, .int j, some (some (.ow (.lst ds))) => (ixN ds.length k).bind fun k' => (match ds[k']? with
  | some (.lst es) => if imms es = true then (ixN es.length j).map fun j' => .nx ((dropBs i δ).set i (some (.ow (.lst (ds.set k' (.lst (es.set j' d))))))) else none
  | _ => none)
 | _, _, _ => none) else none
end
end L2
namespace L2
open PySem PySem.Spec PyProof.Rows
theorem Trees.setI {K : PySem.W.Frag} {H : Hp} {d : D} {y : V} (ty : Tree K H d y []) : ∀ {ds : List D} {xs : List V} {A : List Addr} (j : Nat), Trees K H ds xs A → ∃ A', Trees K H (ds.set j d) (xs.set j y) A' ∧ A'.Sublist A
 | [], _, _, _, h => by
  obtain ⟨rfl, rfl⟩ := h
  exact ⟨[], ⟨rfl, rfl⟩, List.Sublist.refl _⟩
 | e :: ds, _, _, 0, h => by
  unfold Trees at h
  obtain ⟨x, r, A1, A2, rfl, h1, h2, rfl⟩ := h
  refine ⟨A2, ?_, List.sublist_append_right _ _⟩
  rw [List.set_cons_zero, List.set_cons_zero]
  unfold Trees
  exact ⟨y, r, [], A2, rfl, ty, h2, rfl⟩
 | e :: ds, _, _, k + 1, h => by
  unfold Trees at h
  obtain ⟨x, r, A1, A2, rfl, h1, h2, rfl⟩ := h
  obtain ⟨A', t, sb⟩ := Trees.setI ty k h2
  refine ⟨A1 ++ A', ?_, List.Sublist.append_left sb _⟩
  rw [List.set_cons_succ, List.set_cons_succ]
  unfold Trees
  exact ⟨x, _, A1, A', rfl, h1, t, rfl⟩
section
variable {X : Cx} {H0 : Hp} {B0 : Addr → Prop} {fr : Bool} {RX : XR} {e ke je : Expr} {pos : Pos} {x : Str} {px p2 p3 : Pos}
theorem s_st0 {i : Nat} {fk fv : DE} (hx : PE X (.Name x px) (tVar i)) (hk : PD X ke fk) (hv : PD X e fv)
  (ha : ∀ v, assign (.Subscript (.Name x px) ke p2) X.env v = (do
   let ov ← holding [v] (eval (.Name x px) X.env)
   let iv ← holding [v, ov] (eval ke X.env)
   standAt p2
   holding [v, ov, iv] (setItem ov iv v)
   release [v, ov, iv] []) := by intro _; rfl)
  (hs : swapsWithSole [.Subscript (.Name x px) ke p2] e pos.line X.env = pure false := by rfl) (hw : swappedStores [.Subscript (.Name x px) ke p2] e X.env = pure none := by rfl)
  (h1 : (assignEach [.Subscript (.Name x px) ke p2] X.env).map (·.2) = [assign (.Subscript (.Name x px) ke p2) X.env] := by rfl) :
  PS X (.Assign [.Subscript (.Name x px) ke p2] e pos) (tS X.K H0 B0 fr RX (st0 i fk fv)) :=
 PS.imp (ps_asg hv (pg_sub hx hk set_list ha) hs hw h1) fun D σ H ⟨δ, R, o, rs, q, kk⟩ => by
  unfold st0 at q
  cases e1 : fv (allV δ) with
  | none => rw [e1] at q; cases q
  | some d =>
  rw [e1] at q
  have q : (if d.imm = true then (fk (allV δ)).bind fun dk => (match dk, δ[i]? with
   | .int k, some (some (.ow (.lst ds))) => (ixN ds.length k).map fun j => Out.nx ((dropBs i δ).set i (some (.ow (.lst (ds.set j d)))))
   | _, _ => none) else none) = some o := q
  split at q
  case isFalse => cases q
  case isTrue hi =>
  cases e2 : fk (allV δ) with
  | none => rw [e2] at q; cases q
  | some dk =>
  rw [e2] at q
  simp only [Option.bind_some] at q
  split at q
  case h_2 => cases q
  case h_1 =>
  rename_i k ds ei
  cases ej : ixN ds.length k with
  | none => rw [ej] at q; cases q
  | some j =>
  rw [ej] at q
  cases q
  obtain ⟨a, xs, A, ev, ha', ts, eR, nd⟩ := rs.top ei
  refine ⟨noB, allV δ, d, .no, rs.all, e1, fun v H1 s1 r1 => ⟨.ref a, ev, noB, allV δ, .int k, .no, rs.all.mono s1, e2, fun v2 H2 s2 r2 => ?_⟩⟩
  cases (show v2 = V.int k from r2)
  refine ⟨a, xs, k, j, rfl, rfl, s2 _ _ (s1 _ _ ha'), by rw [← ts.length]; exact ej, ?_⟩
  obtain ⟨A', t', sb⟩ := Trees.setI ((r1.immTree d hi).mono s2) j (ts.mono (s1.trans s2))
  have P := rs.put0 (s1.trans s2) ei ev eR nd t' ((List.nodup_cons.mp nd).2.sublist sb) fun b hb => .inl (sb.subset hb)
  exact kk σ _ _ P.1 P.2
theorem s_st1 {i : Nat} {fk fj fv : DE} (hx : PE X (.Name x px) (tVar i)) (hk : PD X ke fk) (hj : PD X je fj) (hv : PD X e fv) (hpi : PlainIx ke := by intro _ _; rfl)
  (ha : ∀ v, assign (.Subscript (.Subscript (.Name x px) ke p3) je p2) X.env v = (do
   let ov ← holding [v] (eval (.Subscript (.Name x px) ke p3) X.env)
   let iv ← holding [v, ov] (eval je X.env)
   standAt p2
   holding [v, ov, iv] (setItem ov iv v)
   release [v, ov, iv] []) := by intro _; rfl)
  (hs : swapsWithSole [.Subscript (.Subscript (.Name x px) ke p3) je p2] e pos.line X.env = pure false := by rfl) (hw : swappedStores [.Subscript (.Subscript (.Name x px) ke p3) je p2] e X.env = pure none := by rfl)
  (h1 : (assignEach [.Subscript (.Subscript (.Name x px) ke p3) je p2] X.env).map (·.2) = [assign (.Subscript (.Subscript (.Name x px) ke p3) je p2) X.env] := by rfl) :
  PS X (.Assign [.Subscript (.Subscript (.Name x px) ke p3) je p2] e pos) (tS X.K H0 B0 fr RX (st1 i fk fj fv)) :=
 PS.imp (ps_asg hv (pg_sub (pe_ix ix_list hx hk hpi) hj set_list ha) hs hw h1) fun D σ H ⟨δ, R, o, rs, q, kk⟩ => by
  unfold st1 at q
  cases e1 : fv (allV δ) with
  | none => rw [e1] at q; cases q
  | some d =>
  rw [e1] at q
  have q : (if d.imm = true then (fk (allV δ)).bind fun dk => (fj (allV δ)).bind fun dj => (match dk, dj, δ[i]? with
   | .int k, .int j, some (some (.ow (.lst ds))) => (ixN ds.length k).bind fun k' => (match ds[k']? with
    | some (.lst es) => if imms es = true then (ixN es.length j).map fun j' => Out.nx ((dropBs i δ).set i (some (.ow (.lst (ds.set k' (.lst (es.set j' d))))))) else none
    | _ => none)
   | _, _, _ => none) else none) = some o := q
  split at q
  case isFalse => cases q
  case isTrue hi =>
  cases e2 : fk (allV δ) with
  | none => rw [e2] at q; cases q
  | some dk =>
  cases e3 : fj (allV δ) with
  | none => rw [e2, e3] at q; cases q
  | some dj =>
  rw [e2, e3] at q
  simp only [Option.bind_some] at q
  split at q
  case h_2 => cases q
  case h_1 =>
  rename_i k j ds ei
  cases ek : ixN ds.length k with
  | none => rw [ek] at q; cases q
  | some k' =>
  rw [ek] at q
  have q : (match ds[k']? with
    | some (.lst es) => if imms es = true then (ixN es.length j).map fun j' => Out.nx ((dropBs i δ).set i (some (.ow (.lst (ds.set k' (.lst (es.set j' d))))))) else none
    | _ => none) = some o := q
  split at q
  case h_2 => cases q
  case h_1 es ed =>
  split at q
  case isFalse => cases q
  case isTrue hes =>
  cases ej : ixN es.length j with
  | none => rw [ej] at q; cases q
  | some j' =>
  rw [ej] at q
  cases q
  obtain ⟨a, xs, b, ys, ev, ha', hxb, hb, hln, _, _⟩ := rs.put1 (.refl H) ei ed hes
  have hat : atI xs k = some (.ref b) := by
   unfold atI
   rw [← hln, ek]
   exact hxb
  refine ⟨noB, allV δ, d, .no, rs.all, e1, fun v H1 s1 r1 => ⟨.ref a, ev, noB, allV δ, .int k, .no, rs.all.mono s1, e2, fun v2 H2 s2 r2 => ?_⟩⟩
  cases (show v2 = V.int k from r2)
  refine ⟨a, xs, k, .ref b, rfl, rfl, SqL.of (s2 _ _ (s1 _ _ ha')), hat, noB, allV δ, .int j, .no, (rs.all.mono s1).mono s2, e3, fun v3 H3 s3 r3 => ?_⟩
  cases (show v3 = V.int j from r3)
  obtain ⟨a', xs', b', ys', ev', ha'', hxb', hb', _, tb, up⟩ := rs.put1 ((s1.trans s2).trans s3) ei ed hes
  rw [ev] at ev'; cases ev'
  rw [ha'] at ha''; cases ha''
  rw [hxb] at hxb'; cases hxb'
  rw [hb] at hb'; cases hb'
  refine ⟨b, ys, j, j', rfl, rfl, s3 _ _ (s2 _ _ (s1 _ _ hb)), by rw [← tb.length]; exact ej, ?_⟩
  obtain ⟨A', t', sb⟩ := Trees.setI (((r1.immTree d hi).mono s2).mono s3) j' tb
  have eA : A' = [] := List.sublist_nil.mp sb
  subst eA
  have P := up _ _ t'
  exact kk σ _ _ P.1 P.2
end
section
variable {X : Cx} {e a b : Expr} {lo hi : Option Expr} {p2 pos : Pos}
def tO (K : PySem.W.Frag) (f : DS → Option (Option Int)) : TO := fun σ H Q => ∃ B δ o, InB B H ∧ RepS K H B σ δ ∧ f δ = some o ∧ ∀ H', Same H H' → Q o H'
abbrev POD (X : Cx) (e : Option Expr) (f : DS → Option (Option Int)) : Prop := PO X e (tO X.K f)
theorem PO.imp {eo : Option Expr} {t t' : TO} (h : PO X eo t) (w : ∀ σ H Q, t' σ H Q → t σ H Q) : PO X eo t' := fun pins s σ H Q I q => h pins s σ H Q I (w σ H Q q)
def dNoPart : DS → Option (Option Int) := fun _ => some none
def dPart (f : DE) : DS → Option (Option Int) := fun δ => match f δ with
 | some (.int i) => some (some i)
 | _ => none
theorem po_noneD : POD X none dNoPart := po_none.imp fun σ H Q ⟨B, δ, o, hB, S, q, k⟩ => by
 cases q
 exact k H (.refl H)
theorem po_someD {f : DE} (h : PD X e f) : POD X (some e) (dPart f) := (po_some h).imp fun σ H Q ⟨B, δ, o, hB, S, q, k⟩ => by
 unfold dPart at q
 split at q
 ·rename_i i e1
  cases q
  exact ⟨B, δ, .int i, hB, S, e1, fun v H' s r => ⟨i, r, k H' s⟩⟩
 ·cases q
def cutL (ds : List D) (lo hi : Option Int) : List D := (ds.drop (HT.sIx ds.length 0 lo)).take (HT.sIx ds.length ds.length hi - HT.sIx ds.length 0 lo)
def dCut (f : DE) (fl fh : DS → Option (Option Int)) : DS → Option (List D) := fun δ => match f δ with
 | some (.lst ds) => (fl δ).bind fun lo => (fh δ).map fun hi => cutL ds lo hi
 | some (.scr ns) => (fl δ).bind fun lo => (fh δ).map fun hi => cutL (ns.map .int) lo hi
 | _ => none
theorem pf_slice {f : DE} {fl fh : DS → Option (Option Int)} (he : PD X e f) (hl : POD X lo fl) (hh : POD X hi fh) : PF X (.Subscript e (.Slice lo hi none p2) pos) (dCut f fl fh) := (pe_slice sl_list he hl hh).imp fun σ H Q ⟨B, δ, ds', hB, S, q, k⟩ => by
 unfold dCut at q
 have core : ∀ (d : D) (ds : List D), f δ = some d → ((fl δ).bind fun lo => (fh δ).map fun hi => cutL ds lo hi) = some ds' → (∀ v H1, Rep X.K H1 B d v → ∃ a xs, v = .ref a ∧ (∀ H2, Same H1 H2 → SqL X.K H2 a xs) ∧ Reps X.K H1 B ds xs) →
   tSl (rSlL X.K) (tD X.K f) (tO X.K fl) (tO X.K fh) σ H Q := by
  intro d ds e1 q get
  cases e2 : fl δ with
  | none => rw [e2] at q; cases q
  | some l =>
  cases e3 : fh δ with
  | none => rw [e2, e3] at q; cases q
  | some u =>
  rw [e2, e3] at q
  cases q
  refine ⟨B, δ, _, hB, S, e1, fun v H1 s1 r1 => ⟨B, δ, l, hB.mono s1, S.mono s1, e2, fun H2 s2 => ⟨B, δ, u, (hB.mono s1).mono s2, (S.mono s1).mono s2, e3, fun H3 s3 => ?_⟩⟩⟩
  obtain ⟨a, xs, rfl, hq, rs⟩ := get v H1 r1
  refine ⟨a, xs, rfl, hq H3 (s2.trans s3), fun p hp => ?_⟩
  have sa := same_upd (o := .lst (cutV xs l u)) hp
  refine k p _ _ (((s1.trans s2).trans s3).trans sa) ((s1.trans (s2.trans s3)).free hp) upd_same ?_
  unfold cutL cutV
  rw [rs.length]
  exact ((rs.drop _).take _).mono ((s2.trans s3).trans sa)
 split at q
 case h_3 => cases q
 case h_1 ds e1 =>
  refine core _ ds e1 q fun v H1 r1 => ?_
  unfold Rep at r1
  obtain ⟨a, xs, rfl, _, hq, rs⟩ := r1
  exact ⟨a, xs, rfl, fun H2 s2 => SqL.of (s2 _ _ hq), rs⟩
 case h_2 ns e1 =>
  refine core _ (ns.map .int) e1 q fun v H1 r1 => ?_
  unfold Rep at r1
  obtain ⟨a, rfl, hq⟩ := r1
  exact ⟨a, _, rfl, fun H2 s2 => (s2.sf hq).sq, reps_ints ns⟩
end
section
variable {X : Cx} {pos : Pos} {x : Str} {iter elt : Expr} {N' : List Str} {sc : Scope} {ifs : List Expr} {n : Nat} {px : Pos} {fi : DS → Option (List D)} {fc : DS → Option Bool} {fe : DE}
theorem comp_ofN {σ : St} {H : Hp} {Q : VK} (hσ : σ.length = n) (hq : tN X.K (mkL (dComp fi fc fe)) σ H Q) : tComp (tI X.K fi) (gName n) (tT X.K fc) (tN X.K fe) 1 σ H Q := by
 obtain ⟨δ, d0, Sδ, q, k⟩ := hq
 unfold mkL at q
 cases eds : dComp fi fc fe δ with
 | none => rw [eds] at q; cases q
 | some ds =>
 rw [eds] at q
 cases q
 unfold dComp at eds
 cases e1 : fi δ with
 | none => rw [e1] at eds; cases eds
 | some xs =>
 rw [e1] at eds
 have q1 : (if xs.length ≤ sizeLine then compL (fun x => (fc (δ ++ [some x])).bind fun k => if k = true then (fe (δ ++ [some x])).map some else some none) xs else none) = some ds := eds
 split at q1
 case isFalse => cases q1
 case isTrue hsz =>
 refine ⟨noB, δ, xs, .no, Sδ, e1, fun J H1 s1 itw => fun Da hD => ?_⟩
 have hD0 : H Da = none := s1.free hD
 have it := itw (fun a => H1 a = none) fun a ha => ha
 refine ⟨fun i m σ' H' => m = xs.length - i ∧ i ≤ xs.length ∧ (∃ w, σ' = σ ++ [w]) ∧ Same H1 H' ∧ ∃ ys dn rs A, H' Da = some (.lst ys) ∧ Trees X.K H' dn ys A ∧ (Da :: A).Nodup ∧ (∀ a ∈ A, H1 a = none) ∧ ds = dn ++ rs ∧ dn.length ≤ i ∧
  compL (fun x => (fc (δ ++ [some x])).bind fun k => if k = true then (fe (δ ++ [some x])).map some else some none) (xs.drop i) = some rs,
  ⟨xs.length, by simp, Nat.zero_le _, ⟨none, rfl⟩, same_upd hD, [], [], ds, [], upd_same, .nil, List.nodup_cons.mpr ⟨(fun z => nomatch z), List.nodup_nil⟩, (fun a z => nomatch z), rfl, Nat.le_refl _, q1⟩, ?_⟩
 rintro i m σ' H' ⟨rfl, hi', ⟨w, rfl⟩, sm, ys, dn, rs, A, hys, tys, nd, fr, hds, hln, hrs⟩
 have kp : Keep X.K (fun a => noB a ∨ H1 a = none) H1 H' := .same sm
 by_cases hlt : i < xs.length
 ·refine .inr ⟨it.go i H' kp hlt, fun σ'' H'' => (i + 1 ≤ xs.length ∧ (∃ w, σ'' = σ ++ [w]) ∧ Same H1 H'' ∧ ∃ ys dn rs A, H'' Da = some (.lst ys) ∧ Trees X.K H'' dn ys A ∧ (Da :: A).Nodup ∧ (∀ a ∈ A, H1 a = none) ∧ ds = dn ++ rs ∧ dn.length ≤ i + 1 ∧
   compL (fun x => (fc (δ ++ [some x])).bind fun k => if k = true then (fe (δ ++ [some x])).map some else some none) (xs.drop (i + 1)) = some rs), fun σ'' H'' h => ⟨xs.length - (i + 1), by omega, rfl, h⟩, fun xv H2 hy => ?_⟩
  obtain ⟨s2, d, hd, rd⟩ := it.yld i H' xv H2 kp hy
  have hdi := hd hlt
  have hx : xs.drop i = d :: xs.drop (i + 1) := by
   obtain ⟨hl, e⟩ := List.getElem?_eq_some_iff.mp hdi
   rw [List.drop_eq_getElem_cons hl, e]
  rw [hx] at hrs
  obtain ⟨o, rs', e2, e3, e4⟩ := compL_cons hrs
  show tT X.K fc ((σ ++ [w]).set n (some xv)) H2 _
  rw [← hσ, set_snoc]
  have S2 : RepS X.K H2 noB (σ ++ [some xv]) (δ ++ [some d]) := (((Sδ.mono s1).mono sm).mono s2).snoc (rd.anti fun a z => z.elim)
  have hl2 : ys.length < sizeLine := by
   have := tys.length
   omega
  cases ec : fc (δ ++ [some d]) with
  | none => rw [ec] at e2; cases e2
  | some kk =>
   rw [ec] at e2
   have e2' : (if kk = true then (fe (δ ++ [some d])).map some else some none) = some o := e2
   refine ⟨noB, δ ++ [some d], kk, .no, S2, ec, fun H3 s3 => ?_⟩
   cases kk with
   | false =>
    rw [if_neg Bool.false_ne_true] at e2'
    rw [if_neg Bool.false_ne_true]
    cases e2'
    exact ⟨hlt, ⟨_, rfl⟩, (sm.trans s2).trans s3, ys, dn, rs', A, s3 _ _ (s2 _ _ hys), (tys.mono s2).mono s3, nd, fr, by rw [hds, e4]; rfl, Nat.le_succ_of_le hln, e3⟩
   | true =>
    rw [if_pos rfl] at e2'
    rw [if_pos rfl]
    cases ey : fe (δ ++ [some d]) with
    | none => rw [ey] at e2'; cases e2'
    | some y =>
     rw [ey] at e2'
     cases e2'
     refine ⟨δ ++ [some d], y, S2.mono s3, ey, fun yv H5 A5 s5 t5 nd5 fr5 => ⟨ys, s5 _ _ (s3 _ _ (s2 _ _ hys)), hl2, ?_⟩⟩
     have s15 : Same H' H5 := (s2.trans s3).trans s5
     have hu : H5 Da = some (.lst ys) := s15 _ _ hys
     have mu : Mut (H5 Da) := by rw [hu]; exact trivial
     have hDa3 : H3 Da = some (.lst ys) := s3 _ _ (s2 _ _ hys)
     have nDa : Da ∉ A ++ A5 := fun z => by
      rcases List.mem_append.mp z with z | z
      ·exact (List.nodup_cons.mp nd).1 z
      ·have := fr5 Da z
       rw [hDa3] at this; cases this
     refine ⟨hlt, ⟨_, rfl⟩, fun b u hb => ?_, ys ++ [yv], dn ++ [y], rs', A ++ A5, upd_same, ?_, List.nodup_cons.mpr ⟨nDa, ?_⟩, fun a ha => ?_, by rw [hds, e4, List.append_assoc]; rfl, by rw [List.length_append]; simp; omega, e3⟩
     ·rw [upd_ne (ne_of_none hb hD)]
      exact s15 _ _ (sm _ _ hb)
     ·refine Trees.keep (Keep.upd (K := X.K) (B := fun x => x = Da) rfl mu).i _ ((tys.mono s15).snoc t5) fun b hb u q => ?_
      have ne : b ≠ Da := fun z => nDa (z ▸ hb)
      rw [upd_ne ne]; exact q
     ·refine List.nodup_append.mpr ⟨(List.nodup_cons.mp nd).2, nd5, fun b hb c hc z => ?_⟩
      subst z
      obtain ⟨u, q, _⟩ := Trees.held _ tys b hb
      have := fr5 b hc
      rw [(s2.trans s3) _ _ q] at this; cases this
     ·rcases List.mem_append.mp ha with z | z
      ·exact fr a z
      ·exact sm.free ((s2.trans s3).free (fr5 a z))
 ·have e : i = xs.length := by omega
  subst e
  refine .inl ⟨it.stop _ H' kp (Nat.le_refl _), ?_⟩
  rw [List.drop_length] at hrs
  cases hrs
  rw [List.append_nil] at hds
  subst hds
  refine k (.ref Da) H' (Da :: A) (s1.trans sm) ?_ nd fun a ha => ?_
  ·unfold Tree
   exact ⟨Da, ys, A, rfl, hys, tys, rfl⟩
  ·rcases List.mem_cons.mp ha with z | z
   ·rw [z]; exact hD0
   ·exact s1.free (fr a z)
theorem pn_comp (hc : X.calm = true) (S : CompScope X.N X.env.scope.names N' 1 sc) (hn : n = X.N.length) (hi : PID X (.Name x px) iter fi)
  (hg : ∀ s H fp pins E, PG (cxComp X N' sc s H fp pins E) (.Name x px) (gName n)) (ht : ∀ s H fp pins E, PIfs (cxComp X N' sc s H fp pins E) ifs (tT X.K fc)) (he : ∀ s H fp pins E, PE (cxComp X N' sc s H fp pins E) elt (tN X.K fe))
  (hs : ∀ x, foldedSetIterable iter X.env x = pure x := by intro _; rfl) : PN X (.ListComp elt [⟨.Name x px, iter, ifs, 0⟩] sc pos) (mkL (dComp fi fc fe)) := by
 intro pins s σ H Q I hq
 exact pe_comp hc S hi ⟨hg, ht, he⟩ hs pins s σ H Q I (comp_ofN (by rw [hn, I.len]) hq)
theorem pas_cN {i : Nat} {y : Str} {py spos : Pos} (hN : X.N.Nodup) (hy : X.N[i]? = some y) (hyl : X.env.scope.names.lookup y = some .local) (hc : X.calm = true) (S : CompScope X.N X.env.scope.names N' 1 sc) (hn : n = X.N.length) (hi : PID X (.Name x px) iter fi)
  (hg : ∀ s H fp pins E, PG (cxComp X N' sc s H fp pins E) (.Name x px) (gName n)) (ht : ∀ s H fp pins E, PIfs (cxComp X N' sc s H fp pins E) ifs (tT X.K fc)) (he : ∀ s H fp pins E, PE (cxComp X N' sc s H fp pins E) elt (tN X.K fe))
  (hsw : swapsWith (.ListComp elt [⟨.Name x px, iter, ifs, 0⟩] sc pos) (some (.Name y py)) spos.line X.env = pure true := by rfl) (hs : ∀ x, foldedSetIterable iter X.env x = pure x := by intro _; rfl) :
  PS X (.Assign [.Name y py] (.ListComp elt [⟨.Name x px, iter, ifs, 0⟩] sc pos) spos) (tAsg (tN X.K (mkL (dComp fi fc fe))) (gName i)) := by
 intro pins s σ H D I hq
 exact ps_setc hc S hN hy hyl hi ⟨hg, ht, he⟩ hsw hs pins s σ H D I (comp_ofN (by rw [hn, I.len]) hq)
end
end L2
namespace L2
open PySem PySem.Spec PyProof.Rows
section
variable {X : Cx} {a b : Expr} {pos : Pos} {f g : DE}
def addI : D → D → Option D := iop fun i j => some (.int (i + j))
def subI : D → D → Option D := iop fun i j => some (.int (i - j))
def mulI : D → D → Option D := iop fun i j => if CMul i j then some (.int (i * j)) else none
def divI : D → D → Option D := iop fun i j => if CDiv i j then some (.int (i / j)) else none
def modI : D → D → Option D := iop fun i j => if 0 < j then some (.int (i % j)) else none
def ltI : D → D → Option D := iop fun i j => some (.bl (decide (i < j)))
def leI : D → D → Option D := iop fun i j => some (.bl (decide (i ≤ j)))
def gtI : D → D → Option D := iop fun i j => some (.bl (decide (j < i)))
theorem pd_add (ha : PD X a f) (hb : PD X b g) : PD X (.BinOp a .Add b pos) (d2 addI f g) := pd_op op_add o2_int0 ha hb
theorem pd_sub (ha : PD X a f) (hb : PD X b g) : PD X (.BinOp a .Sub b pos) (d2 subI f g) := pd_op op_sub o2_int0 ha hb
theorem pd_mul (ha : PD X a f) (hb : PD X b g) : PD X (.BinOp a .Mult b pos) (d2 mulI f g) := pd_op op_mul o2_int ha hb
theorem pd_div (ha : PD X a f) (hb : PD X b g) : PD X (.BinOp a .FloorDiv b pos) (d2 divI f g) := pd_op op_fdiv o2_int ha hb
theorem pd_mod (ha : PD X a f) (hb : PD X b g) : PD X (.BinOp a .Mod b pos) (d2 modI f g) := pd_op op_mod o2_int ha hb
theorem pd_lt (ha : PD X a f) (hb : PD X b g) : PD X (.Compare a [.Lt] [b] pos) (d2 ltI f g) := pd_cmp op_lt o2_bool0 ha hb (nomark _)
theorem pd_gt (ha : PD X a f) (hb : PD X b g) : PD X (.Compare a [.Gt] [b] pos) (d2 gtI f g) := pd_cmp op_gt o2_bool0 ha hb (nomark _)
theorem pd_eq (hu : X.A.units + 64 < cLine) (ha : PD X a f) (hb : PD X b g) : PD X (.Compare a [.Eq] [b] pos) (d2 eqD f g) := pd_cmp (op_eqD hu) o2_eq ha hb (nomark _)
theorem pt_lt (ha : PD X a f) (hb : PD X b g) : PTD X (.Compare a [.Lt] [b] pos) (dTest (d2 ltI f g)) := pt_cmpD op_lt o2_bool0 ha hb (nomark _)
theorem pt_gt (ha : PD X a f) (hb : PD X b g) : PTD X (.Compare a [.Gt] [b] pos) (dTest (d2 gtI f g)) := pt_cmpD op_gt o2_bool0 ha hb (nomark _)
theorem pt_eq (hu : X.A.units + 64 < cLine) (ha : PD X a f) (hb : PD X b g) : PTD X (.Compare a [.Eq] [b] pos) (dTest (d2 eqD f g)) := pt_cmpD (op_eqD hu) o2_eq ha hb (nomark _)
theorem pt_ne (hu : X.A.units + 64 < cLine) (ha : PD X a f) (hb : PD X b g) : PTD X (.Compare a [.NotEq] [b] pos) (dTest (d2 neD f g)) := pt_cmpD (op_neD hu) o2_ne ha hb (nomark _)
theorem pt_nin (hu : X.A.units + 64 < cLine) (ha : PD X a f) (hb : PD X b g) (hm : behindInMarks .NotIn b = false := by rfl) : PTD X (.Compare a [.NotIn] [b] pos) (dTest (d2 ninD f g)) := pt_cmpD (op_ninD hu) o2_nin ha hb hm
end
section
variable {P : Program} {w : World} {K : PySem.W.Frag} {mg : Str → Option Value} {base : Heap}
end
section
variable {X : Cx} {H0 : Hp} {B0 : Addr → Prop} {fr : Bool} {RX : XR} {e : Expr} {es : List Expr} {pos p px px2 cp : Pos} {x fn : Str} {k : Nat} {F : List D → Option D} {fl : List DE}
end
def spLaw (K : PySem.W.Frag) (F : List D → Option D) : Sp := fun vs H Q _ => ∃ (a : Addr) (ns : List Int), vs = [.ref a] ∧ SqF K H a (ns.map V.int) ∧ F [.scr ns] = some (.bl true) ∧ ∀ H', Q (.bl true) H'
theorem only_sqF {K : PySem.W.Frag} {H : Hp} {a : Addr} {xs : List V} (hO : Only H) (h : SqL K H a xs) : SqF K H a xs := by
 rcases h with (h | h) | h
 ·rcases hO a with z | ⟨o, ys, z⟩ <;> (rw [h] at z; cases z)
 ·exact .inl h
 ·exact .inr h
theorem law_of {P : Program} {w : World} {K : PySem.W.Frag} {mg : Str → Option Value} {base : Heap} {k : Nat} {f : Addr} {fd : FuncData} {ps : List Str} {F : List D → Option D} (h : FnOk P w K mg base CX0 k f fd ps (spN K F)) : FnOk P w K mg base CX0 k f fd ps (spLaw K F) := by
 refine h.imp fun vs H Q E z => ?_
 obtain ⟨a, ns, rfl, hq, e, q⟩ := z
 refine ⟨[.scr ns], .bl true, .cons ?_ .nil, e, fun v H' A s t nd fr => ?_⟩
 ·unfold Rep
  exact ⟨a, rfl, hq⟩
 ·cases (show v = V.bl true ∧ _ from t).1
  exact q H'
end L2
namespace L2
open PySem PySem.Spec PyProof.Rows
section
variable {X : Cx} {H0 : Hp} {B0 : Addr → Prop} {fr : Bool} {RX : XR} {e e2 : Expr} {pos ap cp : Pos} {x : Str} {px : Pos} {f g : DE}
def app0N (i : Nat) (f : DE) : SS → Option Out := fun δ => (f (allV δ)).bind fun d => (match δ[i]? with
 | some (some (.ow (.lst ds))) => (appF ds [d]).map fun ds' => .nx ((dropBs i δ).set i (some (.ow (.lst ds'))))
 | _ => none)
def ins0N (i : Nat) (f g : DE) : SS → Option Out := fun δ => (f (allV δ)).bind fun k => if k.imm = true then (g (allV δ)).bind fun d => (match δ[i]? with
 | some (some (.ow (.lst ds))) => (insF ds [k, d]).map fun ds' => .nx ((dropBs i δ).set i (some (.ow (.lst ds'))))
 | _ => none) else none
theorem s_appendN {i : Nat} (hx : PE X (.Name x px) (tVar i)) (he : PN X e f) (hbase : attributeBase (.Name x px) "append" X.env (eval (.Name x px) X.env) = eval (.Name x px) X.env := by rfl)
  (hfew : ((backTo cp (starEach [e] X.env)).all (fun x => !x.1) && (backToKw cp (keywordEach [] X.env)).all (fun x => x.1.isSome) && decide ([e].length + ([] : List Keyword).length + (if ([] : List Keyword).isEmpty then 0 else 1) < 30)) = true := by rfl)
  (hline : (ap.endLine == cp.line) = true := by rfl) (hs : starEach [e] X.env = (false, eval e X.env) :: starEach [] X.env := by rfl) (hsw : swapsWith (.Call (.Attribute (.Name x px) "append" ap) [e] [] cp) none pos.line X.env = pure false := by rfl) :
  PS X (.Expr (.Call (.Attribute (.Name x px) "append" ap) [e] [] cp) pos) (tS X.K H0 B0 fr RX (app0N i f)) :=
 PS.imp (ps_expr (pe_bm PySem.F.plainAttrs_list PySem.F.slot_list_append PySem.F.type_list_append mt_append hx (pa_cons he pa_nil hs) hbase hfew hline hs rfl) hsw) fun D σ H ⟨δ, R, o, rs, q, k⟩ => by
  unfold app0N at q
  cases e1 : f (allV δ) with
  | none => rw [e1] at q; cases q
  | some d =>
  rw [e1] at q
  simp only [Option.bind_some] at q
  split at q
  case h_2 => cases q
  case h_1 =>
  rename_i ds ei
  cases e2 : appF ds [d] with
  | none => rw [e2] at q; cases q
  | some ds' =>
  rw [e2] at q
  cases q
  obtain ⟨a, xs, A, ev, ha, ts, eR, nd⟩ := rs.top ei
  refine ⟨.ref a, ev, .inl ⟨rfl, xs, SqL.of ha⟩, allV δ, d, rs.all, e1, fun y H2 C s2 t2 nC fC => ?_⟩
  show rAppend (.ref a) [y] H2 fun _ H1 => D.nx σ H1
  refine lm_append (K := X.K) H2 a xs ds [d] [y] ds' _ (s2 _ _ ha) ts.length (.one (t2.rep d (fun _ _ z => z.elim))) e2 fun w xs' up => ?_
  obtain ⟨A', t', n', sub⟩ := up H2 A C (ts.mono s2) (.one t2)
  have hAC : (A ++ C).Nodup := List.nodup_append.mpr ⟨(List.nodup_cons.mp nd).2, nC, fun b hb c hc z => by
   subst z
   obtain ⟨u, q, _⟩ := Trees.held ds ts b hb
   rw [fC b hc] at q; cases q⟩
  have P := rs.put0 s2 ei ev eR nd t' (n' hAC) fun b hb => (sub b hb).imp id fun z => fC b z
  exact k σ _ _ P.1 P.2
theorem s_insertN {i : Nat} (hx : PE X (.Name x px) (tVar i)) (hf : PD X e f) (hg : PN X e2 g) (hbase : attributeBase (.Name x px) "insert" X.env (eval (.Name x px) X.env) = eval (.Name x px) X.env := by rfl)
  (hfew : ((backTo cp (starEach [e, e2] X.env)).all (fun x => !x.1) && (backToKw cp (keywordEach [] X.env)).all (fun x => x.1.isSome) && decide ([e, e2].length + ([] : List Keyword).length + (if ([] : List Keyword).isEmpty then 0 else 1) < 30)) = true := by rfl)
  (hline : (ap.endLine == cp.line) = true := by rfl) (hs : starEach [e, e2] X.env = (false, eval e X.env) :: starEach [e2] X.env := by rfl) (hs2 : starEach [e2] X.env = (false, eval e2 X.env) :: starEach [] X.env := by rfl) (hpl : (backTo cp (starEach [e2] X.env)).any (·.1) = false := by rfl)
  (hsw : swapsWith (.Call (.Attribute (.Name x px) "insert" ap) [e, e2] [] cp) none pos.line X.env = pure false := by rfl) :
  PS X (.Expr (.Call (.Attribute (.Name x px) "insert" ap) [e, e2] [] cp) pos) (tS X.K H0 B0 fr RX (ins0N i f g)) :=
 PS.imp (ps_expr (pe_bm PySem.F.plainAttrs_list PySem.F.slot_list_insert PySem.F.type_list_insert mt_insert hx (pa_cons hf (pa_cons hg pa_nil hs2) hs) hbase hfew hline hs hpl) hsw) fun D σ H ⟨δ, R, o, rs, q, k⟩ => by
  unfold ins0N at q
  cases e1 : f (allV δ) with
  | none => rw [e1] at q; cases q
  | some dk =>
  rw [e1] at q
  simp only [Option.bind_some] at q
  split at q
  case isFalse => cases q
  case isTrue him =>
  cases e3 : g (allV δ) with
  | none => rw [e3] at q; cases q
  | some d =>
  rw [e3] at q
  simp only [Option.bind_some] at q
  split at q
  case h_2 => cases q
  case h_1 =>
  rename_i ds ei
  cases e2 : insF ds [dk, d] with
  | none => rw [e2] at q; cases q
  | some ds' =>
  rw [e2] at q
  cases q
  obtain ⟨a, xs, A, ev, ha, ts, eR, nd⟩ := rs.top ei
  refine ⟨.ref a, ev, .inl ⟨rfl, xs, SqL.of ha⟩, noB, allV δ, dk, .no, rs.all, e1, fun kv H1 s1 r1 => ⟨allV δ, d, rs.all.mono s1, e3, fun y H2 C s2 t2 nC fC => ?_⟩⟩
  show rInsert (.ref a) [kv, y] H2 fun _ H1 => D.nx σ H1
  refine lm_insert (K := X.K) H2 a xs ds [dk, d] [kv, y] ds' _ (s2 _ _ (s1 _ _ ha)) ts.length (.cons (r1.mono s2) (.one (t2.rep d (fun _ _ z => z.elim)))) e2 fun w xs' up => ?_
  obtain ⟨A', t', n', sub⟩ := up H2 A C (ts.mono (s1.trans s2)) (by unfold Trees; exact ⟨kv, [y], [], C, rfl, (r1.immTree dk him).mono s2, .one t2, rfl⟩)
  have hAC : (A ++ C).Nodup := List.nodup_append.mpr ⟨(List.nodup_cons.mp nd).2, nC, fun b hb c hc z => by
   subst z
   obtain ⟨u, q, _⟩ := Trees.held ds (ts.mono s1) b hb
   rw [fC b hc] at q; cases q⟩
  have P := rs.put0 (s1.trans s2) ei ev eR nd t' (n' hAC) fun b hb => (sub b hb).imp id fun z => s1.free (fC b z)
  exact k σ _ _ P.1 P.2
end
end L2
namespace L2
open PySem PySem.Spec PyProof.Rows
open PySem.MeetsSeq PySem.MeetsSeq2 PySem.MeetsSeq3 PySem.SeqRoads2 PySem.SeqAt
open PySem.AutoSeq1 (wpAny_loadPart')
section
variable {X : Cx}
theorem Inv.tupleO {pins : List (Addr × Obj)} {σ : St} {H : Hp} {s : Shared} {a : Addr} {xs : List V} (I : Inv X pins σ H s) (h : SqT X.K H a xs) : ∃ (its : List Value) (ob : Obj) (n : Nat), Vals xs its ∧ s.heap.get? a = some ob ∧ ob.cls = .type "tuple" ∧ ob.dict = none ∧ ob.data = .seq its.toArray n ∧ xs.length ≤ sizeLine := by
 rcases h with h | ⟨o, its, n, hk, hc, hs, hz, r⟩
 ·obtain ⟨z, its, r, ob, e, c, n, hd⟩ := h.ok I.hok
  exact ⟨its, ob, n, r, e, c.1, c.2, hd, z⟩
 ·refine ⟨its.toList, o, n, r, I.kIn a o hk, hc.1, hc.2, by simpa using hs, ?_⟩
  have e := r.length
  simp only [Array.length_toList] at e
  omega
variable {o e : Expr} {es : List Expr} {to : TE} {t : TA} {name : Str} {apos cpos : Pos} {id : String} {r : V → List V → Hp → VK → Prop}
theorem ints_some : ∀ {ds : List D} {ns : List Int}, ints' ds = some ns → ds = ns.map D.int
 | [], ns, h => by cases h; rfl
 | .int i :: r, ns, h => by
  unfold ints' at h
  cases e : ints' r with
  | none => rw [e] at h; cases h
  | some ms => rw [e] at h; cases h; rw [List.map_cons, ints_some e]
 | .non :: _, _, h => by cases h
 | .bl _ :: _, _, h => by cases h
 | .str _ :: _, _, h => by cases h
 | .lst _ :: _, _, h => by cases h
 | .tup _ :: _, _, h => by cases h
 | .scr _ :: _, _, h => by cases h
 | .dct _ _ :: _, _, h => by cases h
 | .exc _ :: _, _, h => by cases h
theorem reps_int {K : PySem.W.Frag} {H : Hp} {B : Addr → Prop} : ∀ {ns : List Int} {xs : List V}, Reps K H B (ns.map D.int) xs → xs = ns.map V.int
 | [], _, h => by unfold Reps at h; exact h
 | n :: ns, _, h => by
  rw [List.map_cons] at h
  unfold Reps at h
  obtain ⟨x, r, rfl, h1, h2⟩ := h
  unfold Rep at h1
  rw [h1, reps_int h2]
  rfl
end
end L2
namespace L2
open PySem PySem.Spec PyProof.Rows
open PySem.AutoSeq1 (wpAny_loadPart')
section
variable {prog : Program} {w : World} {A : Around} {E : Value → Shared → Prop} {s : Shared}
end
def tRngV1 (ta : TA) : TE := fun σ H Q => ta σ H fun vs H1 => ∃ j : Int, vs = [.int j] ∧ ∀ p, H1 p = none → Q (.ref p) (upd H1 p (.rng 0 j))
section
variable {X : Cx}
theorem pe_range1 {a : Expr} {ta : TA} {p pos : Pos} (hg : Gl X "range") (hm : X.mg "range" = none) (ha : PA X [a] ta) (hs : starEach [a] X.env = [(false, eval a X.env)] := by rfl) : PE X (.Call (.Name "range" p) [a] [] pos) (tRngV1 ta) := by
 intro pins s σ H Q I h
 refine wpAny_Call_Name_kw (ld_blt I hg hm boot_range (PyProof.Rows.callWith_type1 (thn (ha pos pins s σ H _ I h) fun us s1 ⟨vs, H1, I1, r1, q1⟩ => ?_) hs rfl))
 obtain ⟨j, e, q⟩ := q1
 subst e
 cases r1 with
 | cons r rr =>
  cases rr
  obtain ⟨t, rfl⟩ := r
  refine call_range_1 ⟨.ref s1.heap.objs.size, _, I1.laid (fun b o e => Heap.get?_push_of_some _ e) (Nat.le_refl _) ?_, rfl, q _ (I1.hok.fresh (Nat.le_refl _))⟩
  exact ⟨_, _, _, Heap.get?_push_size _ rfl⟩
def rngV (lo : Int) (n : Nat) : List V := (List.range n).map fun i => .int (lo + (i : Nat))
theorem items_vals {lo : Int} : ∀ {n : Nat} {acc : Array Value}, ItemsOf (fun i v => ∃ t, v = Value.int (lo + i * 1) t) acc n → Vals (rngV lo n) acc.toList := by
 intro n acc h
 obtain ⟨hs, hv⟩ := h
 have key : ∀ (vs : List Value) (k : Nat), (∀ j v, vs[j]? = some v → ∃ t, v = Value.int (lo + ((k + j : Nat) : Int)) t) → Vals ((List.range' k vs.length).map fun i => V.int (lo + (i : Nat))) vs := by
  intro vs
  induction vs with
  | nil => intro k _; exact .nil
  | cons x r ih =>
   intro k hx
   rw [List.length_cons, List.range'_succ, List.map_cons]
   obtain ⟨t, e⟩ := hx 0 x rfl
   refine .cons ⟨t, by simpa using e⟩ (ih (k + 1) fun j v hj => ?_)
   obtain ⟨t, e⟩ := hx (j + 1) v (by simpa using hj)
   exact ⟨t, by rw [e]; congr 1 <;> omega⟩
 have := key acc.toList 0 fun j v hj => by
  obtain ⟨t, e⟩ := hv j v (by simpa using hj)
  exact ⟨t, by rw [e]; congr 1 <;> omega⟩
 rw [← List.range_eq_range', Array.length_toList, hs] at this
 exact this
theorem rngV_len {lo : Int} {n : Nat} : (rngV lo n).length = n := by simp [rngV]
theorem call_listR (hc : X.calm = true) : CallR X (.type "list") (fun xs H Q => ∃ (p : Addr) (lo hi : Int), xs = [.ref p] ∧ H p = some (.rng lo hi) ∧ (-(2 ^ 62) ≤ lo ∧ lo < 2 ^ 62 ∧ -(2 ^ 62) ≤ hi ∧ hi < 2 ^ 62) ∧ (hi - lo).toNat ≤ sizeLine ∧ ∀ l, H l = none → Q (.ref l) (upd H l (.lst (rngV lo (hi - lo).toNat)))) := by
 intro pins s σ H xs us Q I r h
 obtain ⟨p, lo, hi, rfl, hp, hb, hl, q⟩ := h
 obtain ⟨u, rfl, rx⟩ := vals1 r
 cases rx
 obtain ⟨t, u, v, e⟩ := I.hok p _ hp
 refine call_list_range (I.ok.hd hc) e (small_one hb.1 hb.2.1 hb.2.2.1 hb.2.2.2) (n := (hi - lo).toNat) (by rw [rangeSize_one]; split <;> omega) (by rw [sizeLine_eq] at hl; omega) fun h' tk acc' c' kp e2 it => ?_
 have I2 : Inv X pins σ (upd H s.heap.objs.size (.lst (rngV lo (hi - lo).toNat))) { s with heap := h', toks := tk } :=
  I.laid kp (Nat.le_refl _) (show ObjOk X.prog X.w _ h' _ (.lst (rngV lo (hi - lo).toNat)) from ⟨by rw [rngV_len]; exact hl, acc'.toList, c', items_vals it, by simpa using e2⟩)
 exact ⟨.ref s.heap.objs.size, _, I2, rfl, q _ (I.hok.fresh (Nat.le_refl _))⟩
def dSmall (g : DS → Option (List D)) : DS → Option (List D) := fun δ => (g δ).bind fun ds => if ds.length ≤ sizeLine then some ds else none
theorem reps_rng {K : PySem.W.Frag} {H : Hp} {B : Addr → Prop} {lo : Int} {n : Nat} : Reps K H B (rngL lo n) (rngV lo n) := by
 unfold rngL rngV
 generalize List.range n = l
 induction l with
 | nil => exact .nil
 | cons k r ih => exact .cons (by unfold Rep; rfl) ih
theorem rng1_some {f : DE} {δ : DS} {ds : List D} (h : dRng1 f δ = some ds) : ∃ j : Int, f δ = some (.int j) ∧ -(2 ^ 62) ≤ j ∧ j < 2 ^ 62 ∧ ds = rngL 0 j.toNat := by
 unfold dRng1 at h
 split at h
 ·rename_i j e
  split at h
  ·rename_i hb
   cases h
   exact ⟨j, e, hb.1, hb.2, rfl⟩
  ·cases h
 ·cases h
theorem small_some {g : DS → Option (List D)} {δ : DS} {ds : List D} (h : dSmall g δ = some ds) : g δ = some ds ∧ ds.length ≤ sizeLine := by
 unfold dSmall at h
 cases e : g δ with
 | none => rw [e] at h; cases h
 | some es =>
  rw [e] at h
  have h : (if es.length ≤ sizeLine then some es else none) = some ds := h
  split at h
  ·cases h; exact ⟨rfl, by assumption⟩
  ·cases h
theorem rngL_len {lo : Int} {n : Nat} : (rngL lo n).length = n := by simp [rngL]
variable {a b : Expr} {f g : DE} {p p2 pos pos2 : Pos}
theorem pf_listR1 (hc : X.calm = true) (hg : Gl X "list") (hm : X.mg "list" = none) (hg2 : Gl X "range") (hm2 : X.mg "range" = none) (h : PD X a f) (he2 : starEach [a] X.env = [(false, eval a X.env)] := by rfl)
  (he : starEach [.Call (.Name "range" p2) [a] [] pos2] X.env = [(false, eval (.Call (.Name "range" p2) [a] [] pos2) X.env)] := by rfl) : PF X (.Call (.Name "list" p) [.Call (.Name "range" p2) [a] [] pos2] [] pos) (dSmall (dRng1 f)) :=
 (pe_callTy (call_listR hc) hg hm PyProof.Rows.Boot.«list» (pa_cons (pe_range1 hg2 hm2 (pa_cons h pa_nil he2) he2) pa_nil he) (by decide) (by decide) he rfl).imp fun σ H Q ⟨B, δ, ds, hB, S, e1, k⟩ => by
  obtain ⟨e2, hl⟩ := small_some e1
  obtain ⟨j, e3, h1, h2, rfl⟩ := rng1_some e2
  rw [rngL_len] at hl
  refine ⟨B, δ, _, hB, S, e3, fun v H1 s1 r1 => ?_⟩
  unfold Rep at r1
  subst r1
  refine ⟨j, rfl, fun r hr => ⟨r, 0, j, rfl, upd_same, ⟨by omega, by omega, h1, h2⟩, by simpa using hl, fun l hl' => ?_⟩⟩
  refine k l _ _ ((s1.trans (same_upd hr)).trans (same_upd hl')) (s1.free ((same_upd (H := H1) hr).free hl')) upd_same ?_
  rw [Int.sub_zero]
  exact reps_rng
end
end L2
namespace L2
open PySem PySem.Spec PyProof.Rows
section
variable {X : Cx} {pins : List (Addr × Obj)} {σ : St} {H : Hp} {s : Shared} {h' : Heap}
theorem Inv.turnedL {t' : Nat} {fp : List Addr} (I : Inv X pins σ H s) (k : ∀ b o, b ∉ fp → s.heap.get? b = some o → h'.get? b = some o) (hf : ∀ b ∈ fp, FpOk X pins H b) : Inv X pins σ H { s with heap := h', toks := t' } := by
 have nit : ∀ b u, H b = some u → b ∉ fp := fun b u e z => by rw [(hf b z).1] at e; cases e
 have nL : X.env.locals ∉ fp := fun z => (hf _ z).2.1 rfl
 refine I.step (g' := s.gens) (d' := s.drawn) (ch := fp) (fun b hb => ?_) (fun b o _ _ hc e _ => k b o hc e) (fun b o _ _ hc e _ => ⟨o.slots, k b o hc e⟩) (fun _ _ _ _ n => n)
  (fun b o hc e => ⟨o, k b o hc e⟩) (fun _ _ e => e) (fun _ _ _ e => e) (fun b ps e => ⟨#[], by rw [e]; simp⟩) (fun m hm => ?_) (fun b u e => ?_) I.bare
 ·obtain ⟨f0, f1, f2, f3, f4, f5⟩ := hf b hb
  exact ⟨f3, f1, f4, f5⟩
 ·obtain ⟨o, es, ep, ho, r⟩ := hm
  exact ⟨o, es, ep, k _ o nL ho, r⟩
 ·refine (I.hok b u e).stay (fun c v hc q => k c v ?_ q) (fun _ q => q) fun _ _ q => q
  rcases hc with z | z
  ·rw [z]; exact nit b u e
  ·exact nit c _ z
def Ite (K : PySem.W.Frag) (a : Addr) : It :=
 ⟨fun i H => ∃ xs x, SqL K H a xs ∧ xs[i]? = some x, fun i H v H' => ∃ p x, H p = none ∧ v = .ref p ∧ H' = upd H p (.tup [.int (i : Nat), x]) ∧ ∀ xs, SqL K H a xs → xs[i]? = some x, fun i H => ∃ xs, SqL K H a xs ∧ xs.length ≤ i⟩
theorem turn_enum {P : Program} {w : World} {K : PySem.W.Frag} {elts : List Expr} {x1} {tp : Pos} (a e it : Addr) (hne : e ≠ it) :
  Turn P w K (.Tuple elts x1 tp) (Ite K a) [e, it] e (fun i h => (∃ old, IsEnum h e it ((i : Nat) : Int) old) ∧ h.IsListIter it a i) where
 mem := by simp
 obj := fun i h st b hb => by
  obtain ⟨⟨old, he⟩, o, eo, c, d⟩ := st
  rcases List.mem_cons.mp hb with z | z
  ·subst z
   exact ⟨_, he, fun v z => by cases z⟩
  ·have z : b = it := by simpa using z
   subst z
   exact ⟨o, eo, fun v z => by rw [d] at z; cases z⟩
 keep := fun i h h' st k => by
  obtain ⟨⟨old, he⟩, hi⟩ := st
  exact ⟨⟨old, k e (by simp) _ he⟩, hi.at fun o q => k it (by simp) o q⟩
 item := by
  intro X hP hw hK hc i pins s σ H E I hf st hg
  subst hP hw hK
  obtain ⟨xs, x, hq, hx⟩ := hg
  obtain ⟨its, rv, p, hz⟩ := I.list hq
  obtain ⟨u, hu, ru⟩ := rv.get hx
  obtain ⟨⟨old, he⟩, hi⟩ := st
  refine wpAny_pyNext_enum_item he hi p.isList (x := u) (by simpa using hu) hne fun h1 heo hi1 ht1 hz1 hk1 => ⟨_, rfl, ?_⟩
  refine wpAny_letOwnedTupleGo_enum heo fun h2 he2 hs2 => ?_
  have hs2 : Heap.SameBut e h1 h2 := hs2
  have elt : e < s.heap.objs.size := Heap.lt_size he
  obtain ⟨oi, eoi, _⟩ := id hi
  have ilt : it < s.heap.objs.size := Heap.lt_size eoi
  have hp : H s.heap.objs.size = none := I.hok.fresh (Nat.le_refl _)
  have I1 : Inv X pins σ (upd H s.heap.objs.size (.tup [.int (i : Nat), x])) { s with heap := s.heap.push { cls := .type "tuple", data := .seq #[.int (i : Nat) s.toks, u] }, toks := s.toks + 1 } :=
   I.laid (fun b o q => Heap.get?_push_of_some _ q) (Nat.le_refl _) (show ObjOk X.prog X.w _ _ _ (.tup [.int (i : Nat), x]) from ⟨by show 2 ≤ sizeLine; rw [sizeLine_eq]; decide, [.int (i : Nat) s.toks, u], .cons ⟨_, rfl⟩ (.cons ru .nil), TupN.new _ _⟩)
  have hf1 : ∀ b ∈ [e, it], FpOk X pins (upd H s.heap.objs.size (.tup [.int (i : Nat), x])) b := fun b hb => by
   obtain ⟨f0, f⟩ := hf b hb
   refine ⟨?_, f⟩
   have : b ≠ s.heap.objs.size := by
    rcases List.mem_cons.mp hb with z | z
    ·rw [z]; exact Nat.ne_of_lt elt
    ·have z : b = it := by simpa using z
     rw [z]; exact Nat.ne_of_lt ilt
   rw [upd_ne this]
   exact f0
  have kk : ∀ b o, b ∉ [e, it] → (s.heap.push { cls := .type "tuple", data := .seq #[.int (i : Nat) s.toks, u] }).get? b = some o → h2.get? b = some o := by
   intro b o hb q
   have hbe : b ≠ e := fun z => hb (by simp [z])
   have hbi : b ≠ it := fun z => hb (by simp [z])
   rw [hs2.2 b hbe]
   by_cases hbs : b = s.heap.objs.size
   ·subst hbs
    rw [ht1]
    have : (s.heap.push { cls := .type "tuple", data := .seq #[.int (i : Nat) s.toks, u] }).get? s.heap.objs.size = some { cls := .type "tuple", data := .seq #[.int (i : Nat) s.toks, u] } := Heap.get?_push_size _ rfl
    exact this.symm.trans q
   ·have q' : s.heap.get? b = some o := (Heap.get?_push_ne s.heap _ _ hbs).symm.trans q
    exact hk1 b o hbe hbi q'
  have I2 : Inv X pins σ (upd H s.heap.objs.size (.tup [.int (i : Nat), x])) { s with heap := h2, toks := s.toks + 1 } := Inv.turnedL (s := { s with heap := s.heap.push { cls := .type "tuple", data := .seq #[.int (i : Nat) s.toks, u] }, toks := s.toks + 1 }) (h' := h2) (t' := s.toks + 1) (fp := [e, it]) I1 kk hf1
  refine ⟨.ref s.heap.objs.size, _, I2, rfl, ⟨_, x, hp, rfl, rfl, fun ys hy => by rw [I.list_inj hy hq]; exact hx⟩, ⟨⟨u, ?_⟩, ?_⟩, fun b hb => (hf1 b hb).1⟩
  ·have : (((i + 1 : Nat) : Int)) = ((i : Int) + 1) := by omega
   rw [this]
   exact he2
  ·exact hi1.at fun o q => (hs2.2 it (Ne.symm hne)).trans q
 done := by
  intro X hP hw hK hc i pins s σ H E I hf st hg
  subst hP hw hK
  obtain ⟨xs, hq, hx⟩ := hg
  obtain ⟨its, rv, p, hz⟩ := I.list hq
  obtain ⟨⟨old, he⟩, hi⟩ := st
  have hl := rv.length
  exact wpAny_pyNext_enum_end (I.ok.hd hc) he hi p.isList (by simp; omega) fun h' eb => ⟨rfl, I.turnedL (t' := s.toks) (fp := [e, it]) (fun b o hb q => eb b o (fun z => hb (by simp [z])) q) hf⟩
 self := fun _ _ _ _ _ st h => let ⟨⟨_, he⟩, _⟩ := st; wpAny_pyIter_enum he h
def iEnum (K : PySem.W.Frag) (tl : TE) : TI := fun σ H R => tl σ H fun x H1 => ∃ a, [x] = [V.ref a] ∧ (∃ xs, SqL K H1 a xs) ∧ R (Ite K a) H1
theorem pi_enum {elts : List Expr} {x1} {tp p pos : Pos} {l : Expr} {tl : TE} (hg : Gl X "enumerate") (hm : X.mg "enumerate" = none) (hl : PE X l tl) (hs : starEach [l] X.env = [(false, eval l X.env)] := by rfl) :
  PI X (.Tuple elts x1 tp) (.Call (.Name "enumerate" p) [l] [] pos) (iEnum X.K tl) := by
 intro pins s σ H R I h
 have hA : PA X [l] (fun σ H Q => tl σ H fun x H1 => Q [x] H1) := (pa_cons hl pa_nil (by rw [hs]; rfl)).imp fun σ H Q q => q
 refine wpAny_Call_Name_kw (ld_blt I hg hm boot_enumerate (PyProof.Rows.callWith_type1 (thn (hA pos pins s σ H (fun vs H1 => ∃ a, vs = [V.ref a] ∧ (∃ xs, SqL X.K H1 a xs) ∧ R (Ite X.K a) H1) I h) fun us s1 ⟨vs, H1, I1, r1, q1⟩ => ?_) hs rfl))
 obtain ⟨a, rfl, ⟨xs, hq⟩, q⟩ := q1
 obtain ⟨u, rfl, ru⟩ := r1.one
 cases ru
 obtain ⟨its, rv, pl, hz⟩ := I1.list hq
 refine call_enumerate_list pl.isList fun h1 he hi hsz kp => ?_
 refine wpAny_pyIter_enum he ?_
 have I2 : Inv X pins σ H1 { s1 with heap := h1 } := I1.kept (t' := s1.toks) kp
 refine ⟨s1.heap.objs.size + 1, [s1.heap.objs.size + 1, s1.heap.objs.size], _, _, H1, rfl, I2, turn_enum a _ _ (Nat.succ_ne_self _), ⟨⟨_, he⟩, hi⟩, fun b hb => ?_, q⟩
 have hb' : s1.heap.objs.size ≤ b := by
  rcases List.mem_cons.mp hb with z | z
  ·rw [z]; exact Nat.le_succ _
  ·have z : b = s1.heap.objs.size := by simpa using z
   rw [z]; exact Nat.le_refl _
 exact I1.fpOk hb' (I1.hok.fresh hb')
end
def enumFrom (k : Nat) : List D → List D
 | [] => []
 | d :: r => .tup [.int (k : Nat), d] :: enumFrom (k + 1) r
theorem enum_get : ∀ {ds : List D} {k i : Nat}, (enumFrom k ds)[i]? = (ds[i]?).map fun d => .tup [.int ((k + i : Nat) : Int), d]
 | [], _, _ => by simp [enumFrom]
 | d :: r, k, 0 => by simp [enumFrom]
 | d :: r, k, i + 1 => by
  show (enumFrom (k + 1) r)[i]? = (r[i]?).map _
  rw [enum_get]
  congr 1
  funext d
  congr 3
  omega
theorem enum_len : ∀ {ds : List D} {k : Nat}, (enumFrom k ds).length = ds.length
 | [], _ => rfl
 | d :: r, k => by show (enumFrom (k + 1) r).length + 1 = r.length + 1; rw [enum_len]
theorem itd_enum {K : PySem.W.Frag} {H : Hp} {B : Addr → Prop} {a : Addr} {xs : List V} {ds : List D} (hs : ∀ H', Keep K B H H' → SqL K H' a xs) (r : Reps K H B ds xs) : ItD K (Ite K a) H B (enumFrom 0 ds) := by
 have hl := r.length
 refine ⟨fun i H' kp hi => ?_, fun i H' kp hi => ?_, fun i H' v H2 kp hy => ?_⟩
 ·rw [enum_len, hl] at hi
  exact ⟨xs, xs[i], hs H' kp, List.getElem?_eq_getElem hi⟩
 ·rw [enum_len, hl] at hi
  exact ⟨xs, hs H' kp, hi⟩
 ·obtain ⟨p, x, hp, rfl, rfl, hx⟩ := hy
  have hx := hx xs (hs H' kp)
  obtain ⟨d, e, rd⟩ := (Reps.keep kp ds r).get' hx
  refine ⟨same_upd hp, .tup [.int (i : Nat), d], fun _ => by rw [enum_get, e]; simp, ?_⟩
  unfold Rep
  exact ⟨p, _, rfl, SqT.of upd_same, .cons (by unfold Rep; rfl) (.one (rd.mono (same_upd hp)))⟩
def enumS : D → Option (List D)
 | .lst ds => some (enumFrom 0 ds)
 | .scr ns => some (enumFrom 0 (ns.map .int))
 | _ => none
def dEnum (f : DE) : DS → Option (List D) := fun δ => (f δ).bind enumS
section
variable {X : Cx}
theorem pi_enumD {elts : List Expr} {x1} {tp p pos : Pos} {l : Expr} {f : DE} (hg : Gl X "enumerate") (hm : X.mg "enumerate" = none) (h : PD X l f) (hs : starEach [l] X.env = [(false, eval l X.env)] := by rfl) :
  PID X (.Tuple elts x1 tp) (.Call (.Name "enumerate" p) [l] [] pos) (dEnum f) := (pi_enum hg hm h hs).imp fun σ H R ⟨B, δ, ds, hB, S, q, k⟩ => by
 unfold dEnum at q
 cases e : f δ with
 | none => rw [e] at q; cases q
 | some d =>
  rw [e] at q
  have q' : enumS d = some ds := q
  refine ⟨B, δ, d, hB, S, e, fun v H1 s1 r1 => ?_⟩
  unfold enumS at q'
  split at q'
  ·cases q'
   unfold Rep at r1
   obtain ⟨a, xs, rfl, n, h, r⟩ := r1
   refine ⟨a, rfl, ⟨xs, SqL.of h⟩, k _ H1 s1 fun C hC => ?_⟩
   have na : ¬ (B a ∨ C a) := fun z => z.elim n fun z => by rw [hC a z] at h; cases h
   exact itd_enum (xs := xs) (fun H' kp => SqL.of (kp.sl a xs na h)) (Reps.wide hC _ r)
  ·cases q'
   unfold Rep at r1
   obtain ⟨a, rfl, h⟩ := r1
   exact ⟨a, rfl, ⟨_, h.sq⟩, k _ H1 s1 fun C hC => itd_enum (fun H' kp => (kp.sf a _ h).sq) (reps_ints _)⟩
  ·cases q'
def two (h : D → D → Option (Option D)) : D → Option (Option D)
 | .tup [a, b] => h a b
 | _ => none
variable {N' : List Str} {sc : Scope} {iter elt : Expr} {ifs : List Expr} {n : Nat} {x y : Str} {px py tp pos : Pos} {x1 : Nat} {fi : DS → Option (List D)} {fc : DS → Option Bool} {fe : DE}
end
end L2
namespace L2
open PySem PySem.Spec PyProof.Rows
def keyD : D → Option Key
 | .int n => some (.inl n)
 | .str x => some (.inr x)
 | _ => none
theorem key_rep {K : PySem.W.Frag} {H : Hp} {B : Addr → Prop} {d : D} {k : Key} {v : V} (e : keyD d = some k) (r : Rep K H B d v) : v = kV k := by
 unfold keyD at e
 split at e
 ·cases e; unfold Rep at r; exact r
 ·cases e; unfold Rep at r; exact r
 ·cases e
def setK (ks : List Key) (ds : List D) (k : Key) (d : D) : List D := match ks, ds with
 | k' :: ks, e :: ds => (if k' = k then d else e) :: setK ks ds k d
 | _, _ => []
def hasK (ks : List Key) (k : Key) : Bool := ks.any fun k' => decide (k' = k)
def putKs (ks : List Key) (k : Key) : List Key := if hasK ks k = true then ks else ks ++ [k]
def putDs (ks : List Key) (ds : List D) (k : Key) (d : D) : List D := if hasK ks k = true then setK ks ds k d else ds ++ [d]
theorem any_mem {k : Key} {kvs : List (Key × V)} {ks : List Key} (e : kvs.map (·.1) = ks) : (kvs.any fun kv => decide (kv.1 = k)) = hasK ks k := by
 subst e
 unfold hasK
 rw [List.any_map]
 rfl
theorem set_tree {K : PySem.W.Frag} {H : Hp} {k : Key} {d : D} {v : V} (td : Tree K H d v []) : ∀ {kvs : List (Key × V)} {ds : List D}, Trees K H ds (kvs.map (·.2)) [] → Trees K H (setK (kvs.map (·.1)) ds k d) ((kvs.map fun kv => if kv.1 = k then (kv.1, v) else kv).map (·.2)) []
 | [], ds, t => by
  cases ds with
  | nil => exact .nil
  | cons e ds => unfold Trees at t; obtain ⟨_, _, _, _, z, _⟩ := t; cases z
 | p :: r, [], t => by obtain ⟨z, _⟩ := t; cases z
 | p :: r, e :: ds, t => by
  unfold Trees at t
  obtain ⟨x, xs, B, C, e1, t1, t2, e2⟩ := t
  cases e1
  obtain ⟨rfl, rfl⟩ := List.append_eq_nil_iff.mp e2.symm
  have ih := set_tree (k := k) td (kvs := r) t2
  rw [List.map_cons, List.map_cons, List.map_cons]
  unfold setK Trees
  refine ⟨_, _, [], [], rfl, ?_, ih, rfl⟩
  by_cases h : p.1 = k
  ·rw [if_pos h, if_pos h]; exact td
  ·rw [if_neg h, if_neg h]; exact t1
theorem put_keys {k : Key} {v : V} {kvs : List (Key × V)} : (putK kvs k v).map (·.1) = putKs (kvs.map (·.1)) k := by
 unfold putK putKs
 rw [any_mem (k := k) (kvs := kvs) rfl]
 by_cases h : hasK (kvs.map (·.1)) k = true
 ·rw [if_pos h, if_pos h, List.map_map]
  apply List.map_congr_left
  intro p _
  show (if p.1 = k then (p.1, v) else p).1 = p.1
  split <;> rfl
 ·rw [if_neg h, if_neg h, List.map_append]
  rfl
theorem put_tree {K : PySem.W.Frag} {H : Hp} {k : Key} {d : D} {v : V} {kvs : List (Key × V)} {ds : List D} (td : Tree K H d v []) (t : Trees K H ds (kvs.map (·.2)) []) : Trees K H (putDs (kvs.map (·.1)) ds k d) ((putK kvs k v).map (·.2)) [] := by
 unfold putK putDs
 rw [any_mem (k := k) (kvs := kvs) rfl]
 by_cases h : hasK (kvs.map (·.1)) k = true
 ·rw [if_pos h, if_pos h]
  exact set_tree td t
 ·rw [if_neg h, if_neg h, List.map_append]
  exact t.snoc td
theorem val_none {k : Key} {kvs : List (Key × V)} : (valV kvs k).isSome = hasK (kvs.map (·.1)) k := by rw [← valV_any]; exact any_mem rfl
def inK : D → D → Option Bool := fun x y => match y with
 | .dct ks _ => (keyD x).map fun k => hasK ks k
 | _ => none
def dDIn (f g : DE) : DS → Option Bool := fun δ => (f δ).bind fun x => (g δ).bind fun y => inK x y
section
variable {X : Cx} {a b o i value : Expr} {f g : DE} {pos pos' : Pos}
theorem din_some {δ : DS} {c : Bool} (h : dDIn f g δ = some c) : ∃ x k ks ds, f δ = some x ∧ keyD x = some k ∧ g δ = some (.dct ks ds) ∧ c = hasK ks k := by
 unfold dDIn at h
 cases e1 : f δ with
 | none => rw [e1] at h; cases h
 | some x =>
  rw [e1] at h
  cases e2 : g δ with
  | none => rw [e2] at h; cases h
  | some y =>
   rw [e2] at h
   have h : inK x y = some c := h
   unfold inK at h
   split at h
   ·cases e3 : keyD x with
    | none => rw [e3] at h; cases h
    | some k => rw [e3] at h; cases h; exact ⟨x, k, _, _, rfl, e3, rfl, rfl⟩
   ·cases h
theorem pt_din (hu : X.A.units + 64 < cLine) (ha : PD X a f) (hb : PD X b g) (hm : behindInMarks .In b = false := by rfl) : PTD X (.Compare a [.In] [b] pos) (dDIn f g) :=
 (pt_cmp (pc_din (by omega) ha hb) hm).imp fun σ H Q ⟨B, δ, c, hB, S, q, k⟩ => by
  obtain ⟨x, ky, ks, ds, e1, e2, e3, rfl⟩ := din_some q
  refine ⟨B, δ, x, hB, S, e1, fun v H1 s1 r1 => ⟨B, δ, _, hB.mono s1, S.mono s1, e3, fun w H2 s2 r2 => ?_⟩⟩
  unfold Rep at r2
  obtain ⟨p, kvs, rfl, n, hp, ek, rs⟩ := r2
  have ev := key_rep e2 r1
  subst ev
  refine ⟨p, valV kvs ky, rfl, DGet.k hp, _, rfl, ?_⟩
  rw [val_none, ek]
  exact k H2 (s1.trans s2)
theorem pn_dnew : PN X (.Dict [] [] pos) (dC (.dct [] [])) := pe_dnewK.imp fun σ H Q ⟨δ, d, S, q, k⟩ => by
 cases q
 intro p hp
 refine k _ _ [p] (same_upd hp) ?_ (List.nodup_cons.mpr ⟨fun z => (nomatch z), List.nodup_nil⟩) fun a ha => ?_
 ·unfold Tree
  exact ⟨p, [], [], rfl, upd_same, rfl, .nil, rfl⟩
 ·rw [List.mem_singleton.mp ha]; exact hp
variable {H0 : Hp} {B0 : Addr → Prop} {fr : Bool} {RX : XR} {x : Str} {px : Pos} {ke e : Expr}
def dput (i : Nat) (fk fv : DE) : SS → Option Out := fun δ => (fv (allV δ)).bind fun d => if d.imm = true then (fk (allV δ)).bind fun dk => (match keyD dk, δ[i]? with
 | some k, some (some (.ow (.dct ks ds))) => if imms ds = true ∧ ks.length < sizeLine then some (.nx ((dropBs i δ).set i (some (.ow (.dct (putKs ks k) (putDs ks ds k d)))))) else none
 | _, _ => none) else none
theorem trees_imm {K : PySem.W.Frag} {H : Hp} {ds : List D} {xs : List V} {A : List Addr} (t : Trees K H ds xs A) (h : imms ds = true) : Trees K H ds xs [] := Reps.immTree (B := fun _ => False) ds h (t.rep ds fun _ _ z => z)
theorem s_dput {i : Nat} {fk fv : DE} (hu : X.A.units + 64 < cLine) (hx : PE X (.Name x px) (tVar i)) (hk : PD X ke fk) (hv : PD X e fv)
  (hs : swapsWith e (some (.Subscript (.Name x px) ke pos')) pos.line X.env = pure false := by rfl) :
  PS X (.Assign [.Subscript (.Name x px) ke pos'] e pos) (tS X.K H0 B0 fr RX (dput i fk fv)) :=
 PS.imp (ps_dput (by omega) hx hk hv hs) fun D σ H ⟨δ, R, o, rs, q, kk⟩ => by
  unfold dput at q
  cases e1 : fv (allV δ) with
  | none => rw [e1] at q; cases q
  | some d =>
  rw [e1, Option.bind_some] at q
  split at q
  case isFalse => cases q
  case isTrue hi =>
  cases e2 : fk (allV δ) with
  | none => rw [e2] at q; cases q
  | some dk =>
  rw [e2, Option.bind_some] at q
  split at q
  case h_2 => cases q
  case h_1 k ks ds e3 ei =>
  split at q
  case isFalse => cases q
  case isTrue hc =>
  cases q
  obtain ⟨v0, ev, t0, nd⟩ := rs.ow i _ ei
  unfold Tree at t0
  obtain ⟨a, kvs, A, rfl, ha, ek, ts, eR⟩ := t0
  have ts := trees_imm ts hc.1
  refine ⟨noB, allV δ, d, .no, rs.all, e1, fun v H1 s1 r1 => ⟨.ref a, ev, noB, allV δ, dk, .no, rs.all.mono s1, e2, fun kv H2 s2 r2 => ?_⟩⟩
  have ekv := key_rep e3 r2
  subst ekv
  subst ek
  have ha2 : H2 a = some (.dK kvs) := s2 _ _ (s1 _ _ ha)
  refine ⟨a, _, rfl, DPut.k ha2 (by rw [← List.length_map (f := (·.1))]; exact hc.2), ?_⟩
  have haR : a ∈ R i := by rw [eR]; exact List.mem_cons_self
  have mu : Mut (H2 a) := by rw [ha2]; exact trivial
  have td : Tree X.K H2 d v [] := (r1.immTree d hi).mono s2
  have tp := put_tree (k := k) td (ts.mono (s1.trans s2))
  have P := rs.rewrite (d' := .dct (putKs (kvs.map (·.1)) k) (putDs (kvs.map (·.1)) ds k d)) (a := a) (o := .dK (putK kvs k v)) (A' := [a]) (s1.trans s2) ei ev haR (by
   unfold Tree
   exact ⟨a, putK kvs k v, [], rfl, upd_same, put_keys, Trees.keep (Keep.upd (K := X.K) (B := fun x => x = a) rfl mu).i _ tp fun b hb => (nomatch hb), rfl⟩) (List.nodup_cons.mpr ⟨fun z => (nomatch z), List.nodup_nil⟩) fun b hb => by
    rw [List.mem_singleton.mp hb]; exact .inl haR
  exact kk σ _ _ P.1 P.2
end
end L2
namespace HT
open PySem PySem.Spec PyProof.Rows
section
variable {prog : Program} {w : World} {A : Around} {E : Value → Shared → Prop} {s : Shared}
end
end HT
namespace L2
open PySem PySem.Spec PyProof.Rows
section
variable {X : Cx} {e st : Expr} {te : TE} {tk : TO} {pos p2 : Pos}
variable {f g : DE}
variable {a b : Expr}
def catLs : D → D → Option (List D)
 | .lst ds, .lst es => if ds.length + es.length ≤ sizeLine then some (ds ++ es) else none
 | _, _ => none
def dCat (f g : DE) : DS → Option (List D) := fun δ => (f δ).bind fun x => (g δ).bind fun y => catLs x y
theorem pf_cat (ha : PD X a f) (hb : PD X b g) : PF X (.BinOp a .Add b pos) (dCat f g) := (pe_op op_cat ha hb).imp fun σ H Q ⟨B, δ, ds, hB, S, q, k⟩ => by
 unfold dCat at q
 cases e1 : f δ with
 | none => rw [e1] at q; cases q
 | some x =>
 rw [e1, Option.bind_some] at q
 cases e2 : g δ with
 | none => rw [e2] at q; cases q
 | some y =>
 rw [e2, Option.bind_some] at q
 unfold catLs at q
 split at q
 case h_2 => cases q
 case h_1 xs ys =>
 split at q
 case isFalse => cases q
 case isTrue hl =>
 cases q
 refine ⟨B, δ, _, hB, S, e1, fun v H1 s1 r1 => ⟨B, δ, _, hB.mono s1, S.mono s1, e2, fun v2 H2 s2 r2 => ?_⟩⟩
 unfold Rep at r1 r2
 obtain ⟨p1, vs, rfl, n1, h1, rs1⟩ := r1
 obtain ⟨p2, ws, rfl, n2, h2, rs2⟩ := r2
 refine ⟨p1, p2, vs, ws, rfl, rfl, s2 _ _ h1, h2, by rw [← rs1.length, ← rs2.length]; exact hl, fun p hp => ?_⟩
 exact k p _ _ ((s1.trans s2).trans (same_upd hp)) ((s1.trans s2).free hp) upd_same (((rs1.mono s2).append rs2).mono (same_upd hp))
def maxF : List D → Option D
 | [.int i, .int j] => some (.int (if j > i then j else i))
 | _ => none
def minF : List D → Option D
 | [.int i, .int j] => some (.int (if j < i then j else i))
 | _ => none
theorem oa_min {K : PySem.W.Frag} : OpA K (fun xs H Q => ∃ i j, xs = [.int i, .int j] ∧ Q (.int (if j < i then j else i)) H) minF := by
 intro H B ds d vs Q hB hr q k
 unfold minF at q
 split at q
 case h_2 => cases q
 case h_1 i j =>
 cases q
 unfold Reps at hr
 obtain ⟨x, r, rfl, hx, hr⟩ := hr
 obtain ⟨y, rfl, hy⟩ := reps1 hr
 unfold Rep at hx hy
 subst hx hy
 exact ⟨i, j, rfl, k _ H (.refl H) (by unfold Rep; rfl)⟩
variable {p : Pos}
theorem pd_min2 (hc : X.calm = true) (hg : Gl X "min") (hm : X.mg "min" = none) (ha : PD X a f) (hb : PD X b g) (he : starEach [a, b] X.env = (false, eval a X.env) :: starEach [b] X.env := by rfl) (he2 : starEach [b] X.env = [(false, eval b X.env)] := by rfl) (hpl : (backTo pos (starEach [b] X.env)).any (·.1) = false := by rfl) : PD X (.Call (.Name "min" p) [a, b] [] pos) (dCall minF [f, g]) :=
 pd_callB (call_min2 hc) oa_min hg hm PyProof.Rows.Boot.«min» (pad_cons ha (pad_cons hb pad_nil he2) he) (by decide) (by decide) he hpl
end
end L2
namespace L2
open PySem PySem.Spec PyProof.Rows
section
variable {X : Cx} {o e : Expr} {apos cpos : Pos}
end
end L2
namespace L2
open PySem PySem.Spec PyProof.Rows
section
variable {X : Cx} {H0 : Hp} {B0 : Addr → Prop} {fr : Bool} {RX : XR} {e : Expr} {pos : Pos} {f : DE}
end
end L2
namespace L2
open PySem PySem.Spec PyProof.Rows
section
variable {X : Cx} {tg : Expr}
end
section
variable {X : Cx} {H0 : Hp} {B0 : Addr → Prop} {fr : Bool} {RX : XR} {pos : Pos}
variable {a : Expr} {f : DE}
end
end L2
namespace L2
open PySem PySem.Spec PyProof.Rows
section
variable {X : Cx} {a b : Expr} {f g : DE} {pos : Pos}
variable {H0 : Hp} {B0 : Addr → Prop} {fr : Bool} {RX : XR} {x : Str} {px ap cp : Pos} {e : Expr}
def ext0N (i : Nat) (f : DE) : SS → Option Out := fun δ => (f (allV δ)).bind fun d => (match d, δ[i]? with
 | .lst es, some (some (.ow (.lst ds))) => if ds.length + es.length ≤ sizeLine then some (.nx ((dropBs i δ).set i (some (.ow (.lst (ds ++ es)))))) else none
 | _, _ => none)
end
end L2
namespace L2
open PySem PySem.Spec PyProof.Rows
def insS (x : Int) : List Int → List Int
 | [] => [x]
 | y :: r => if x ≤ y then x :: y :: r else y :: insS x r
def srtI : List Int → List Int
 | [] => []
 | x :: r => insS x (srtI r)
theorem insS_perm (x : Int) : ∀ l : List Int, (insS x l).Perm (x :: l)
 | [] => .refl _
 | y :: r => by
  unfold insS
  split
  ·exact .refl _
  ·exact ((insS_perm x r).cons y).trans (.swap x y r)
theorem srtI_perm : ∀ l : List Int, (srtI l).Perm l
 | [] => .refl _
 | x :: r => (insS_perm x _).trans ((srtI_perm r).cons x)
theorem insS_sorted {x : Int} : ∀ {l : List Int}, l.Pairwise (· ≤ ·) → (insS x l).Pairwise (· ≤ ·)
 | [], _ => by unfold insS; simp
 | y :: r, h => by
  unfold insS
  split
  ·rename_i hxy
   refine List.pairwise_cons.mpr ⟨fun z hz => ?_, h⟩
   rcases List.mem_cons.mp hz with e | e
   ·omega
   ·have := (List.pairwise_cons.mp h).1 z e
    omega
  ·rename_i hxy
   refine List.pairwise_cons.mpr ⟨fun z hz => ?_, insS_sorted (List.pairwise_cons.mp h).2⟩
   rcases List.mem_cons.mp ((insS_perm x r).mem_iff.mp hz) with e | e
   ·omega
   ·exact (List.pairwise_cons.mp h).1 z e
theorem srtI_sorted : ∀ l : List Int, (srtI l).Pairwise (· ≤ ·)
 | [] => .nil
 | _ :: r => insS_sorted (srtI_sorted r)
theorem sorted_one : ∀ {a b : List Int}, a.Perm b → a.Pairwise (· ≤ ·) → b.Pairwise (· ≤ ·) → a = b
 | [], b, p, _, _ => (List.nil_perm.mp p).symm
 | x :: a, [], p, _, _ => by have := p.length_eq; simp at this
 | x :: a, y :: b, p, ha, hb => by
  obtain ⟨ha1, ha2⟩ := List.pairwise_cons.mp ha
  obtain ⟨hb1, hb2⟩ := List.pairwise_cons.mp hb
  have hxy : x = y := by
   have h1 : x ∈ y :: b := p.mem_iff.mp List.mem_cons_self
   have h2 : y ∈ x :: a := p.mem_iff.mpr List.mem_cons_self
   rcases List.mem_cons.mp h1 with e | e
   ·exact e
   ·rcases List.mem_cons.mp h2 with e' | e'
    ·exact e'.symm
    ·have := ha1 y e'
     have := hb1 x e
     omega
  subst hxy
  rw [sorted_one (List.perm_cons x |>.mp p) ha2 hb2]
theorem srtI_is {a l : List Int} (p : a.Perm l) (h : a.Pairwise (· ≤ ·)) : a = srtI l := sorted_one (p.trans (srtI_perm l).symm) h (srtI_sorted l)
section
variable {prog : Program} {w : World} {A : Around} {E : Value → Shared → Prop} {s : Shared}
theorem sorted_seq {l : Addr} {T : String} {o : Obj} {vs : List Value} {n : Nat} {ns : List Int} {Q : Value → Shared → Prop} (hT : T = "list" ∨ T = "tuple") (ho : s.heap.get? l = some o) (hc : o.cls = .type T) (hd : o.data = .seq vs.toArray n) (hI : IntsAre vs ns) (h64 : vs.length < 64)
  (h : ∀ (h1 h' : Heap) (out : List Value) (e : Nat) (ns' : List Int), (∀ b o', s.heap.get? b = some o' → h1.get? b = some o') → (∀ b o', h1.get? b = some o' → h'.get? b = some o') → h'.get? h1.objs.size = some { cls := .type "list", data := .seq out.toArray e } → IntsAre out ns' → ns'.Perm ns → ns'.Pairwise (· ≤ ·) → Q (.ref h1.objs.size) { s with heap := h' }) :
  wpAny (model prog w) A (call (.builtin "sorted") [.ref l]) Q E s := by
 refine Calls.call_function_entry kind_sorted plain_sorted entry_sorted (args_sorted1 _) ?_
 unfold Builtin.«sorted»
 refine wpAny_bind (m := checkCount "sorted" 1 1 _) (wpAny_pure ?_)
 refine wpAny_bind (wpAny_collect_seq l hT ho hc hd (fun h1 k1 => ?_) (by rw [List.size_toArray, sizeLine_eq]; omega))
 rw [List.toList_toArray]
 refine wpAny_bind (wpAny_newList ?_)
 have hoL : (h1.push (seqObj "list" vs.toArray 0)).get? h1.objs.size = some (seqObj "list" vs.toArray 0) := Heap.get?_push_size _ rfl
 show wpAny _ _ _ _ _ { s with heap := h1.push (seqObj "list" vs.toArray 0) }
 refine wpAny_bind (wpAny_holding (wpAny_call_entry slot_list_sort ⟨_, hoL, rfl⟩ entry_list_sort (list_sort_tree hoL hI h64 fun out ns' a1 a2 a3 => ⟨_, rfl, ?_⟩) (args_list_sort _)))
 obtain ⟨e, he⟩ := sortedHeap_at (out := out) hoL
 refine wpAny_pure ⟨_, rfl, h h1 _ out.toList e ns' k1 (fun b o' hb => ?_) (by simpa [seqObj] using he) a1 a2 a3⟩
 have hlt : b < h1.objs.size := Heap.lt_size hb
 rw [sortedHeap_old (Nat.ne_of_lt hlt) (by rw [size_push']; exact Nat.lt_succ_of_lt hlt)]
 exact Heap.get?_push_of_some _ hb
end
section
variable {X : Cx}
theorem intsV : ∀ {ns : List Int} {vs : List Value}, IntsAre vs ns → Vals (ns.map V.int) vs
 | _, _, .nil => .nil
 | _, _, .cons n t r => .cons ⟨t, rfl⟩ (intsV r)
theorem vals_are : ∀ {ns : List Int} {vs : List Value}, Vals (ns.map V.int) vs → IntsAre vs ns
 | [], _, .nil => .nil
 | n :: ns, _, .cons ⟨t, e⟩ r => by subst e; exact .cons n t (vals_are r)
theorem call_sortedI : CallR X (.builtin "sorted") (fun xs H Q => ∃ (p : Addr) (ns : List Int), xs = [.ref p] ∧ (SqL X.K H p (ns.map V.int) ∨ SqT X.K H p (ns.map V.int)) ∧ ns.length < 64 ∧ ∀ l, H l = none → Q (.ref l) (upd H l (.lst ((srtI ns).map V.int)))) := by
 intro pins s σ H xs us Q I r h
 obtain ⟨p, ns, rfl, hq, h64, q⟩ := h
 obtain ⟨u, rfl, rx⟩ := vals1 r
 cases rx
 have fin : ∀ (its : List Value), Vals (ns.map V.int) its → ∀ (h1 h' : Heap) (out : List Value) (e : Nat) (ns' : List Int), (∀ b o', s.heap.get? b = some o' → h1.get? b = some o') → (∀ b o', h1.get? b = some o' → h'.get? b = some o') → h'.get? h1.objs.size = some { cls := .type "list", data := .seq out.toArray e } → IntsAre out ns' → ns'.Perm ns → ns'.Pairwise (· ≤ ·) → EP X pins σ Q (.ref h1.objs.size) { s with heap := h' } := by
  intro its rv h1 h' out e ns' k1 k2 ho hi hp hs
  have es := srtI_is hp hs
  subst es
  have I1 : Inv X pins σ H { s with heap := h1 } := I.kept (t' := s.toks) k1
  refine ⟨.ref h1.objs.size, _, Inv.laid (s := { s with heap := h1 }) (t' := s.toks) I1 k2 (Nat.le_refl _) (show ObjOk X.prog X.w _ h' _ (.lst ((srtI ns).map V.int)) from ⟨?_, out, e, intsV hi, ho⟩), rfl, q _ (I1.hok.fresh (Nat.le_refl _))⟩
  rw [List.length_map, hp.length_eq, sizeLine_eq]
  omega
 rcases hq with hq | hq
 ·obtain ⟨its, rv, ⟨o, n, e, c, _, d⟩, hz⟩ := I.list hq
  have hlen : its.length = ns.length := by have := rv.length; simpa using this.symm
  exact sorted_seq (.inl rfl) e c d (vals_are rv) (by omega) (fin its rv)
 ·obtain ⟨its, o, n, rv, e, c, _, d, hz⟩ := I.tupleO hq
  have hlen : its.length = ns.length := by have := rv.length; simpa using this.symm
  exact sorted_seq (.inr rfl) e c d (vals_are rv) (by omega) (fin its rv)
def sortF : List D → Option (List D)
 | [.lst ds] => (ints' ds).bind fun ns => if ns.length < 64 then some ((srtI ns).map .int) else none
 | [.tup ds] => (ints' ds).bind fun ns => if ns.length < 64 then some ((srtI ns).map .int) else none
 | _ => none
theorem sort_some {ds es : List D} (h : ((ints' ds).bind fun ns => if ns.length < 64 then some ((srtI ns).map D.int) else none) = some es) : ∃ ns : List Int, ds = ns.map D.int ∧ ns.length < 64 ∧ es = (srtI ns).map D.int := by
 cases e : ints' ds with
 | none => rw [e] at h; cases h
 | some ns =>
  rw [e, Option.bind_some] at h
  split at h
  ·cases h
   exact ⟨ns, ints_some e, by assumption, rfl⟩
  ·cases h
theorem ol_sort {K : PySem.W.Frag} : OpL K (fun xs H Q => ∃ (p : Addr) (ns : List Int), xs = [.ref p] ∧ (SqL K H p (ns.map V.int) ∨ SqT K H p (ns.map V.int)) ∧ ns.length < 64 ∧ ∀ l, H l = none → Q (.ref l) (upd H l (.lst ((srtI ns).map V.int)))) sortF := by
 intro H B ds es vs Q hB hr q k
 unfold sortF at q
 split at q
 ·obtain ⟨ns, rfl, h64, rfl⟩ := sort_some q
  obtain ⟨v, rfl, r⟩ := reps1 hr
  unfold Rep at r
  obtain ⟨a, xs, rfl, _, h, rs⟩ := r
  have ex := reps_int rs
  subst ex
  exact ⟨a, ns, rfl, .inl (SqL.of h), h64, fun l hl => k l _ _ (same_upd hl) hl upd_same (reps_ints _)⟩
 ·obtain ⟨ns, rfl, h64, rfl⟩ := sort_some q
  obtain ⟨v, rfl, r⟩ := reps1 hr
  unfold Rep at r
  obtain ⟨a, xs, rfl, h, rs⟩ := r
  have ex := reps_int rs
  subst ex
  exact ⟨a, ns, rfl, .inr h, h64, fun l hl => k l _ _ (same_upd hl) hl upd_same (reps_ints _)⟩
 ·cases q
variable {e : Expr} {f : DE} {p pos : Pos}
theorem pf_sorted (hg : Gl X "sorted") (hm : X.mg "sorted" = none) (h : PD X e f) (he : starEach [e] X.env = [(false, eval e X.env)] := by rfl) : PF X (.Call (.Name "sorted" p) [e] [] pos) (dCallL sortF [f]) :=
 (pe_callB call_sortedI hg hm boot_sorted (pad_cons h pad_nil he) (by decide) (by decide) he rfl).imp (callL ol_sort)
end
end L2
namespace L2
open PySem PySem.Spec PyProof.Rows
section
variable {prog : Program} {w : World} {A : Around} {s : Shared} {R : Result → Shared → Prop}
variable {I : Addr} {fp wr : List Addr} {G : Array GenState → Array GenState → Prop} {n : Nat} {P : Nat → Value → Prop} {St : Nat → Shared → Prop}
end
section
variable {prog : Program} {w : World} {A : Around} {E : Value → Shared → Prop} {s : Shared}
end
section
variable {X : Cx}
end
end L2
namespace L2
open PySem PySem.Spec PyProof.Rows
def Thr (h : Heap) (e T : Addr) (cls : Value) : Prop := ∃ oe vs oT ts, h.get? e = some oe ∧ oe.cls = cls ∧ oe.data = .fields vs ∧ vs[1]? = some (.ref T) ∧ T ≠ e ∧ h.get? T = some oT ∧ oT.data = .fields ts ∧ ts[3]? = some .none ∧ oe.dict = none
def Thr0 (h : Heap) (e : Addr) (cls : Value) : Prop := ∃ oe vs, h.get? e = some oe ∧ oe.cls = cls ∧ oe.data = .fields vs ∧ vs[1]? = some .none ∧ oe.dict = none
structure Gone (S ch : List Addr) (e : Addr) (cls : Value) (h h' : Heap) : Prop where
 keep : ∀ b o, b ∉ S → b ∉ ch → h.get? b = some o → h'.get? b = some o
 slot : ∀ b o, b ∈ S → b ∉ ch → h.get? b = some o → ∃ sl, h'.get? b = some { o with slots := sl }
 there : ∀ b o, h.get? b = some o → ∃ o', h'.get? b = some o'
 thr : ∃ T, h.objs.size ≤ T ∧ Thr h' e T cls
section
variable {M : Model} {A : Around} {E : Value → Shared → Prop} {s : Shared}
theorem dict_map {o : Obj} {f : Array Value → Array Value} (h : o.dict = none) : (Obj.mapFields f o).dict = none := by
 unfold Obj.mapFields
 split <;> exact h
theorem note_new {base : Heap} {env : Env} {outer : List Env} {L e : Addr} {oe : Obj} {vs : Array Value} {head : Value} {hadNext : Bool} {Q : Unit → Shared → Prop}
  (hfr : A.frames = some (env :: outer)) (hl : s.heap.FunFrames base (env :: outer)) (hf : env.frame = some L)
  (he : s.heap.get? e = some oe) (hd : oe.data = .fields vs) (hsz : 1 < vs.size) (hdn : oe.dict = none)
  (h : ∀ h', Gone (frs (env :: outer)) [e] e oe.cls s.heap h' → Q () { s with heap := h' }) :
  wpAny M A (do let a ← frameOf env; let pl ← entryPlaceOf L hadNext; let b ← EntryCells.newEntry head a .none (rawInt L) .none pl; setField (.ref e) 1 b) (fun _ s' => wpAny M A (setFlight (.ref e) none) Q E s') E s := by
 have hene : e ∉ frs (env :: outer) := fun hm => by
  obtain ⟨_, o, ho, hnf⟩ := hl.mem hm
  rw [he] at ho; injection ho with ho; subst ho; exact hnf vs hd
 refine wpAny_bind (wpAny_frameOf_fun hfr hl hf fun h₁ hs₁ => ?_)
 refine wpAny_bind (wpAny_entryPlaceOf fun pl hpl => ?_)
 unfold EntryCells.newEntry newFields
 refine wpAny_bind (wpAny_newObj_type ?_ (hpl.sizeOk5 _ _ _ _ _))
 have he₁ : h₁.get? e = some oe := (hs₁.2.1 e hene).trans he
 generalize hob : ({ cls := .type "traceback", dict := none, data := .fields ([head, .ref L, .none, rawInt L, .none] ++ (if pl.isEmpty then List.replicate 6 Value.none else pl)).toArray } : Obj) = ob
 have hobd : ob.data = .fields ([head, .ref L, .none, rawInt L, .none] ++ (if pl.isEmpty then List.replicate 6 Value.none else pl)).toArray := by rw [← hob]
 have hobf : ob.isFreed = false := by rw [← hob]; rfl
 have he₂ := Heap.get?_push_of_some (h := h₁) ob he₁
 refine wpAny_setField he₂ hd hsz ?_
 have hTe : h₁.objs.size ≠ e := Nat.ne_of_gt (Heap.lt_size he₁)
 have hd₃ := Obj.data_mapFields hd (·.setIfInBounds 1 (Value.ref h₁.objs.size))
 have he₃ := Heap.get?_update_self (Obj.mapFields (·.setIfInBounds 1 (Value.ref h₁.objs.size))) he₂ (Obj.isFreed_of_fields hd₃)
 have hT₃ := (Heap.get?_update_other (h₁.push ob) (Obj.mapFields (·.setIfInBounds 1 (Value.ref h₁.objs.size))) (Ne.symm hTe)).trans (Heap.get?_push_size h₁ hobf)
 unfold setFlight
 refine wpAny_bind (wpAny_field he₃ hd₃ (x := .ref h₁.objs.size) (by simp [hsz]) ?_)
 rw [if_pos (show (Value.ref h₁.objs.size != Value.none) = true from by simp)]
 refine wpAny_setField hT₃ hobd (by simp only [List.size_toArray, List.length_append, List.length_cons, List.length_nil] <;> omega) (h _ ?_)
 have keep : ∀ b o, b ≠ e → h₁.get? b = some o →
   (((h₁.push ob).update e (Obj.mapFields (·.setIfInBounds 1 (Value.ref h₁.objs.size)))).update h₁.objs.size (Obj.mapFields (·.setIfInBounds 3 ((none : Option Addr).elim Value.none fun f => rawInt f)))).get? b = some o := fun b o hbe hb => by
  have hbT : h₁.objs.size ≠ b := Nat.ne_of_gt (Heap.lt_size hb)
  rw [Heap.get?_update_other _ _ hbT, Heap.get?_update_other _ _ (Ne.symm hbe)]
  exact Heap.get?_push_of_some _ hb
 have heF : (((h₁.push ob).update e (Obj.mapFields (·.setIfInBounds 1 (Value.ref h₁.objs.size)))).update h₁.objs.size (Obj.mapFields (·.setIfInBounds 3 ((none : Option Addr).elim Value.none fun f => rawInt f)))).get? e = some (Obj.mapFields (·.setIfInBounds 1 (Value.ref h₁.objs.size)) oe) := by
  rw [Heap.get?_update_other _ _ hTe]; exact he₃
 refine ⟨fun b o hb hc e1 => ?_, fun b o hb hc e1 => ?_, fun b o e1 => ?_, h₁.objs.size, ?_, ?_⟩
 ·exact keep b o (fun z => hc (by simp [z])) ((hs₁.2.1 b hb).trans e1)
 ·obtain ⟨sl, e2⟩ := hs₁.2.2 b o e1
  exact ⟨sl, keep b _ (fun z => hc (by simp [z])) e2⟩
 ·by_cases hb : b = e
  ·exact ⟨Obj.mapFields (·.setIfInBounds 1 (Value.ref h₁.objs.size)) oe, by rw [hb]; exact heF⟩
  ·obtain ⟨sl, e2⟩ := hs₁.2.2 b o e1
   exact ⟨_, keep b _ hb e2⟩
 ·rw [hs₁.1]
  exact Nat.le_refl _
 ·exact ⟨_, _, _, _, heF, Obj.cls_mapFields _ _, hd₃, by simp [hsz], hTe, Heap.get?_update_self _ hT₃ (Obj.isFreed_of_fields (Obj.data_mapFields hobd _)), Obj.data_mapFields hobd _, by first | (simp; done) | (rcases hpl with rfl | ⟨_, _, _, _, _, _, _, rfl⟩ <;> simp), dict_map hdn⟩
theorem note_first {base : Heap} {env : Env} {outer : List Env} {L e : Addr} {cls : Value} {Q : Unit → Shared → Prop}
  (hfr : A.frames = some (env :: outer)) (hl : s.heap.FunFrames base (env :: outer)) (hf : env.frame = some L) (ht : Thr0 s.heap e cls)
  (h : ∀ h', Gone (frs (env :: outer)) [e] e cls s.heap h' → Q () { s with heap := h' }) : wpAny M A (noteFrame (.ref e) env) (fun _ s' => wpAny M A (setFlight (.ref e) none) Q E s') E s := by
 obtain ⟨oe, vs, he, rfl, hd, h1, hdn⟩ := ht
 unfold noteFrame
 simp only [hf]
 refine wpAny_bind (wpAny_field he hd h1 ?_)
 rw [if_neg (by decide)]
 exact note_new hfr hl hf he hd (Array.getElem?_eq_some_iff.mp h1).1 hdn h
theorem note_next {base : Heap} {env : Env} {outer : List Env} {L e T : Addr} {cls : Value} {Q : Unit → Shared → Prop}
  (hfr : A.frames = some (env :: outer)) (hl : s.heap.FunFrames base (env :: outer)) (hf : env.frame = some L) (ht : Thr s.heap e T cls)
  (h : ∀ h', Gone (frs (env :: outer)) [e, T] e cls s.heap h' → Q () { s with heap := h' }) : wpAny M A (noteFrame (.ref e) env) (fun _ s' => wpAny M A (setFlight (.ref e) none) Q E s') E s := by
 obtain ⟨oe, vs, oT, ts, he, rfl, hd, h1, hTe, hT, hdT, h3, hdn⟩ := ht
 unfold noteFrame
 simp only [hf]
 refine wpAny_bind (wpAny_field he hd h1 ?_)
 rw [if_pos (show (Value.ref T != Value.none) = true from by simp)]
 refine wpAny_bind (wpAny_field hT hdT h3 ?_)
 rw [if_neg (show ¬ ((Value.none == rawInt L) = true) from by simp [rawInt])]
 refine wpAny_bind (wpAny_setField hT hdT (Array.getElem?_eq_some_iff.mp h3).1 ?_)
 have other : ∀ b, b ≠ T → (s.heap.update T (Obj.mapFields (·.setIfInBounds 3 Value.none))).get? b = s.heap.get? b := fun b hb => Heap.get?_update_other _ _ (Ne.symm hb)
 have noRecord : ∀ b o, s.heap.get? b = some o → (∀ vs, o.data ≠ .fields vs) → b ≠ T := fun b o hb hnf q => by
  rw [q, hT] at hb; injection hb with hb; subst hb; exact hnf ts hdT
 refine note_new hfr (hl.of_keeps fun b o hb hnf => ⟨o, (other b (noRecord b o hb hnf)).trans hb, rfl⟩) hf ((other e (Ne.symm hTe)).trans he) hd (Array.getElem?_eq_some_iff.mp h1).1 hdn fun h' G => h h' ?_
 refine ⟨fun b o hb hc e1 => G.keep b o hb (fun z => hc (List.mem_cons.mpr (.inl (List.mem_singleton.mp z)))) ((other b fun z => hc (by simp [z])).trans e1), fun b o hb hc e1 => G.slot b o hb (fun z => hc (List.mem_cons.mpr (.inl (List.mem_singleton.mp z)))) ((other b fun z => hc (by simp [z])).trans e1), fun b o e1 => ?_, ?_⟩
 ·by_cases hb : b = T
  ·have e2 : (s.heap.update T (Obj.mapFields (·.setIfInBounds 3 Value.none))).get? b = some (Obj.mapFields (·.setIfInBounds 3 Value.none) oT) := by
    rw [hb]
    exact Heap.get?_update_self _ hT (Obj.isFreed_of_fields (Obj.data_mapFields hdT _))
   exact G.there b _ e2
  ·exact G.there b o ((other b hb).trans e1)
 ·obtain ⟨T', h1, h2⟩ := G.thr
  exact ⟨T', by rwa [Heap.size_after_update] at h1, h2⟩
theorem leaving_eq {env : Env} {e : Value} {Q : Unit → Shared → Prop} (h : wpAny M A (noteFrame e env) (fun _ s' => wpAny M A (setFlight e none) Q E s') E s) : wpAny M A (leaving env e) Q E s := by
 unfold leaving
 exact wpAny_bind h
end
end L2
namespace L2
open PySem PySem.Spec PyProof.Rows
theorem ObjOk.some {P : Program} {w : World} {H : Hp} {h : Heap} {a : Addr} {o : HO} (x : ObjOk P w H h a o) : ∃ ob, h.get? a = Option.some ob := by
 cases q : h.get? a with
 | some ob => exact ⟨ob, rfl⟩
 | none =>
  have y : ObjOk P w H h a o := x
  induction o with
  | lst xs => obtain ⟨_, _, _, _, e⟩ := x; rw [q] at e; cases e
  | tup xs => obtain ⟨_, _, _, _, e, _⟩ := x; rw [q] at e; cases e
  | dK kvs => obtain ⟨_, _, _, _, _, _, _, e, _⟩ := x; rw [q] at e; cases e
  | dT kvs => obtain ⟨_, _, _, _, _, _, _, e, _⟩ := x; rw [q] at e; cases e
  | set S n => obtain ⟨_, _, _, _, e, _⟩ := x; rw [q] at e; cases e
  | ins C dx fs => obtain ⟨_, _, _, e, _⟩ := x; rw [q] at e; cases e
  | own y => obtain ⟨_, e⟩ := x; rw [q] at e; cases e
  | xd fs => obtain ⟨_, ⟨_, _, _, e, _⟩, _⟩ := x; rw [q] at e; cases e
  | met f y => have e := x; unfold ObjOk at e; rw [q] at e; cases e
  | rng lo hi => obtain ⟨_, _, _, e⟩ := x; rw [q] at e; cases e
  | frz ob u ih => have e := x.1; rw [q] at e; cases e
  | tbl ps => have e := x; unfold ObjOk at e; rw [q] at e; cases e
  | ext φ => obtain ⟨_, ⟨_, e⟩, _⟩ := x; rw [q] at e; cases e
section
variable {X : Cx} {pins : List (Addr × Obj)} {σ : St} {H : Hp} {s : Shared}
def FpX (X : Cx) (pins : List (Addr × Obj)) (H : Hp) (b : Addr) : Prop :=
 H b = none ∧ b ≠ X.env.locals ∧ (b ∈ X.ex ∨ X.s₀.heap.get? b = none) ∧ (∀ x c, X.env.cells.lookup x = some c → c ≠ b) ∧ ∀ p ∈ X.pn ++ pins, p.1 ≠ b
theorem Inv.fpX {H' : Hp} {b : Addr} (I : Inv X pins σ H s) (hb : s.heap.get? b = none) (hn : H' b = none) : FpX X pins H' b := by
 refine ⟨hn, fun z => ?_, ?_, fun x c e z => ?_, fun p hp z => ?_⟩
 ·obtain ⟨m, ⟨o, _, _, ho, _⟩, _⟩ := I.loc
  rw [← z, hb] at ho
  cases ho
 ·by_cases hx : b ∈ X.ex
  ·exact .inl hx
  ·refine .inr ?_
   cases q : X.s₀.heap.get? b with
   | none => rfl
   | some o =>
    obtain ⟨o', e⟩ := I.base.there b o q hx
    rw [hb] at e
    cases e
 ·obtain ⟨v, o, ho, _⟩ := I.cell x c e
  rw [z, hb] at ho
  cases ho
 ·have := (I.pin p hp).1
  rw [z, hb] at this
  cases this
theorem Inv.fresh0 {b : Addr} (I : Inv X pins σ H s) (hb : s.heap.get? b = none) : H b = none := by
 cases q : H b with
 | none => rfl
 | some u =>
  obtain ⟨o, e⟩ := (I.hok b u q).some
  rw [hb] at e
  cases e
theorem Inv.gone {ch : List Addr} {e : Addr} {cls : Value} {h' : Heap} (I : Inv X pins σ H s) (G : Gone (frs X.stack) ch e cls s.heap h') (hch : ∀ b ∈ ch, FpX X pins H b) : Inv X pins σ H { s with heap := h' } := by
 have nS : ∀ b u, H b = some u → b ∉ frs X.stack := fun b u q z => by rw [I.stkFree b z] at q; cases q
 have nC : ∀ b u, H b = some u → b ∉ ch := fun b u q z => by rw [(hch b z).1] at q; cases q
 have hok : HOk X.prog X.w H h' := fun b u q => (I.hok b u q).stay (fun c v hc e => by
  rcases hc with rfl | z
  ·exact G.keep _ v (nS _ u q) (nC _ u q) e
  ·exact G.keep c v (nS c _ z) (nC c _ z) e) (fun _ q => q) fun _ _ q => q
 have any : ∀ b o, b ∉ ch → s.heap.get? b = some o → ∃ sl, h'.get? b = some { o with slots := sl } := fun b o hc q => by
  by_cases hb : b ∈ frs X.stack
  ·exact G.slot b o hb hc q
  ·exact ⟨o.slots, G.keep b o hb hc q⟩
 have new : ∀ b o, X.s₀.heap.get? b = some o → b ∉ X.ex → b ∉ ch := fun b o q hx z => by
  rcases (hch b z).2.2.1 with y | y
  ·exact hx y
  ·rw [y] at q; cases q
 have kp : ∀ b o, b ≠ X.env.locals → b ∉ X.fs → b ∉ ch → s.heap.get? b = some o → h'.get? b = some o := fun b o hL hb hc q =>
  G.keep b o (fun z => (List.mem_cons.mp (I.stkSub b z)).elim hL hb) hc q
 have old : ∀ b o, X.s₀.heap.get? b = some o → b ≠ X.env.locals := fun b o q => Nat.ne_of_lt (Nat.lt_of_lt_of_le (Heap.lt_size q) I.ok.above)
 have cellK : ∀ x c, X.env.cells.lookup x = some c → ∀ v, s.heap.IsCell c v → h'.IsCell c v := fun x c q v ⟨o, ho, hd⟩ => by
  obtain ⟨sl, y⟩ := any c o (fun z => (hch c z).2.2.2.1 x c q rfl) ho
  exact ⟨_, y, hd⟩
 refine ⟨I.ok, I.os, I.bare, ⟨?_, ?_, fun b o q n hx => I.base.free b o q n hx, ?_, I.base.tups, I.base.frzs, I.base.tbls⟩, ?_, ?_, I.free, I.freeC, ?_, hok, I.len⟩
 ·exact fun b o q n hb hx => kp b o (old b o q) hb (new b o q hx) (I.base.keep b o q n hb hx)
 ·intro b o q n hb hx
  obtain ⟨sl, q1⟩ := I.base.slot b o q n hb hx
  obtain ⟨sl', q2⟩ := any b _ (new b o q hx) q1
  exact ⟨sl', q2⟩
 ·intro b o q hx
  obtain ⟨o', q1⟩ := I.base.there b o q hx
  exact G.there b o' q1
 ·obtain ⟨m, ⟨o, es, ep, ho, r⟩, hl⟩ := I.loc
  obtain ⟨sl, hL⟩ := any _ o (fun z => (hch _ z).2.1 rfl) ho
  refine ⟨m, ⟨_, es, ep, hL, r⟩, fun i x v e1 e2 e3 => ?_⟩
  obtain ⟨u, r, l⟩ := hl i x v e1 e2 e3
  exact ⟨u, r, l.imp id fun ⟨k, c, q, z⟩ => ⟨k, c, q, cellK x c q _ z⟩⟩
 ·intro x c q
  obtain ⟨v, z⟩ := I.cell x c q
  exact ⟨v, cellK x c q v z⟩
 ·intro p hp
  obtain ⟨q, n, ne, nf, d⟩ := I.pin p hp
  exact ⟨kp p.1 p.2 ne nf (fun z => (hch p.1 z).2.2.2.2 p hp rfl) q, n, ne, nf, d⟩
end
def CXE (P : Program) (w : World) : CXT := fun outer H s E e s' => ∃ (ea T : Addr) (cls : Value) (H' : Hp), e = .ref ea ∧ s'.os = s.os ∧ AllBare s'.gens ∧ Un (frs outer) [] H H' s.heap s'.heap ∧ HOk P w H' s'.heap ∧
 s.heap.get? ea = none ∧ s.heap.get? T = none ∧ H' ea = none ∧ H' T = none ∧ Thr s'.heap ea T cls ∧ E cls none H'
section
variable {P : Program} {w : World} {K : PySem.W.Frag} {mg : Str → Option Value} {base : Heap} {N : List Str} {qual : Str} {scope : Scope} {f : Addr} {cd : Value} {A : Around} {outer : List Env} {s : Shared} {H : Hp} {E : XK}
theorem raise_out {pins : List (Addr × Obj)} {σ : St} {H1 : Hp} {s1 : Shared} {e : Addr} {cls : Value} (I : Inv (cxOf (CXE P w) P w K mg base N qual scope f cd A outer s H E) pins σ H1 s1)
  (hf : FpX (cxOf (CXE P w) P w K mg base N qual scope f cd A outer s H E) pins H1 e) (ht : Thr0 s1.heap e cls) (hE : E cls none H1) : (cxOf (CXE P w) P w K mg base N qual scope f cd A outer s H E).xe (.ref e) s1 := by
 refine leaving_eq (note_first (base := base) (outer := outer) I.ok.frames I.stack rfl ht fun h' G => ?_)
 have I' := I.gone G fun b hb => by rw [List.mem_singleton.mp hb]; exact hf
 obtain ⟨T, hT, th⟩ := G.thr
 have he : s.heap.get? e = none := by
  rcases hf.2.2.1 with z | z
  ·exact absurd (show e ∈ ([] : List Addr) from z) (by simp)
  ·exact z
 exact ⟨e, T, cls, H1, rfl, I'.os, I'.bare, I'.base, I'.hok, he, Heap.get?_none_of_le (Nat.le_trans I.sz hT), hf.1, I.hok.fresh hT, th, hE⟩
end
end L2
namespace L2
open PySem PySem.Spec PyProof.Rows
section
variable {X : Cx} {x : Str} {C : Addr} {B Bn newId nid initId inN : String} {bm bmN : List Value} {np cpos pos : Pos} {e₀ : Expr} {te : TE}
def tRaise (te : TE) (R : St → Hp → Prop) : TS := fun _ σ H => te σ H fun _ H1 => R σ H1
def Want (X : Cx) (C : Addr) (R : St → Hp → Prop) : Prop := ∀ (pins : List (Addr × Obj)) (σ : St) (H : Hp) (s : Shared) (e : Addr), Inv X pins σ H s → FpX X pins H e → Thr0 s.heap e (.ref C) → R σ H → X.xe (.ref e) s
theorem ps_raise {R : St → Hp → Prop} (hc : X.calm = true) (hg : Gl X x) (O : OwnCls x C bm newId X.mg X.base) (Fn : ExcBaseFacts Bn newId inN bmN) (hBn : bm.contains (.type Bn) = true) (FB : ExcBaseFacts B nid initId bm) (hW : Want X C R) (h : PE X e₀ te)
  (he : starEach [e₀] X.env = [(false, eval e₀ X.env)] := by rfl) (hd : (x == ("__debug__" : Str)) = false := by decide) : PS X (.Raise (some (.Call (.Name x np) [e₀] [] cpos)) none pos) (tRaise te R) := by
 intro pins s σ H D I hq
 obtain ⟨tl, N, nm, q, bs, hdct, sn, sub, ab, col, dd, k0, k1, k2, k3, k5, mN, hC, hN, hni, T⟩ := O.obj
 refine wpAny_Raise_call_subU (C := C) (nm := nm) (q := q) (N := N) (bs := bs) (bm := tl) (hdct := hdct) (sn := sn) (sub := sub) (ab := ab) (col := col) (dd := dd) (k0 := k0) (k1 := k1) (k2 := k2) (k3 := k3) (k5 := k5)
  Fn hBn FB (mN := mN) (T.hasType FB.hasBase) (I.ok.hd hc) (by rw [he]; rfl) hni (ld_glob I hg O.bound ⟨rfl, ?_⟩ hd)
 have ha := (pa_cons h pa_nil he) cpos pins s σ H (fun vs H1 => match vs with
  | [_] => R σ H1
  | _ => False) I hq
 rw [he] at ha ⊢
 refine Calls.evalArgs_plain (thn ha fun us s2 ⟨vs, H2, I2, r2, q2⟩ => ?_)
 cases r2 with
 | nil => exact (show False from q2).elim
 | cons r r3 =>
  cases r3 with
  | cons _ _ => exact (show False from q2).elim
  | nil =>
   refine ⟨rfl, by show 1 ≤ sizeLine; rw [sizeLine_eq]; omega, I2.bk _ _ hC, hN.keeps I2.bk, T.keeps I2.bk, fun h' e hm => ?_⟩
   obtain ⟨t, he', _⟩ := hm.there
   have I3 : Inv X pins σ H2 { s2 with heap := h' } := I2.kept (t' := s2.toks) hm.keeps
   exact hW pins σ H2 _ e I3 (I2.fpX hm.new (I2.fresh0 hm.new)) ⟨_, _, he', rfl, rfl, rfl, rfl⟩ q2
variable {H0 : Hp} {B0 : Addr → Prop} {fr : Bool} {RX : XR}
def raiseO (c : Nat) (f : DE) : SS → Option Out := fun δ => (f (allV δ)).map fun _ => .ex c δ
theorem s_raise {c : Nat} {f : DE} (hc : X.calm = true) (hg : Gl X x) (O : OwnCls x C bm newId X.mg X.base) (Fn : ExcBaseFacts Bn newId inN bmN) (hBn : bm.contains (.type Bn) = true) (FB : ExcBaseFacts B nid initId bm) (hW : Want X C (RX c)) (h : PD X e₀ f)
  (he : starEach [e₀] X.env = [(false, eval e₀ X.env)] := by rfl) (hd : (x == ("__debug__" : Str)) = false := by decide) : PS X (.Raise (some (.Call (.Name x np) [e₀] [] cpos)) none pos) (tS X.K H0 B0 fr RX (raiseO c f)) :=
 PS.imp (ps_raise hc hg O Fn hBn FB hW h he hd) fun D σ H ⟨δ, R, o, rs, q, k⟩ => by
  unfold raiseO at q
  cases e : f (allV δ) with
  | none => rw [e] at q; cases q
  | some d =>
   rw [e] at q
   cases q
   exact ⟨noB, allV δ, d, .no, rs.all, e, fun v H1 s1 r1 => k σ H1 R (rs.mono s1) (.same s1)⟩
end
end L2
namespace L2
open PySem PySem.Spec PyProof.Rows
inductive XO where
 | val (d : D) | exc (c : Nat)
def spX (K : PySem.W.Frag) (cl : Nat → Value) (m : List D → Option XO) : Sp := fun vs H Q E => ∃ ds o, Reps K H noB ds vs ∧ m ds = some o ∧ (match o with
 | .val d => ∀ v H' A, Same H H' → Tree K H' d v A → A.Nodup → (∀ a ∈ A, H a = none) → Q v H'
 | .exc c => ∀ H', Same H H' → E (cl c) none H')
def runX (np nl : Nat) (g : SS → Option Out) : List D → Option XO := fun ds => if ds.length = np then (match g (ds.map (fun d => some (.sh d)) ++ List.replicate nl none) with
 | some (.rt d) => some (.val d)
 | some (.nx _) => some (.val .non)
 | some (.ex c _) => some (.exc c)
 | _ => none) else none
theorem runX_len {np nl : Nat} {g : SS → Option Out} {ds : List D} {o : XO} (h : runX np nl g ds = some o) : ds.length = np := by
 unfold runX at h
 split at h
 ·assumption
 ·cases h
abbrev defRX (cl : Nat → Value) (E : XK) : XR := fun c _ H1 => E (cl c) none H1
section
variable {P : Program} {w : World} {K : PySem.W.Frag} {mg : Str → Option Value} {base : Heap}
theorem fnX {x qual : Str} {st : Stmt} {f : Addr} {fd : FuncData} {N ps : List Str} {k np nl : Nat} {g : SS → Option Out} {cl : Nat → Value} (F : Fun K x qual st f fd) (S : FnScope N ps (defScope st)) (hnp : ps.length = np) (hN : N.length = np + nl)
  (hbody : ∀ (cdv : Value) (A : Around) (outer : List Env) (s : Shared) (H : Hp) (E : XK), Room k (A.deeper (envOfC qual (defScope st) s.heap.objs.size f cdv)) →
   PSs (cxOf (CXE P w) P w K mg base N qual (defScope st) f cdv A outer s H E) (defBody st) (tS K H noB true (defRX cl E) g)) : FnOk P w K mg base (CXE P w) (k + 1) f fd ps (spX K cl (runX np nl g)) := by
 obtain ⟨oc, od, kV, doc, pm, an, cdv, ct, osl, rfl, lk, hcd⟩ := F.ex
 refine fn_of lk hcd S (fun vs H Q E h => ?_) fun A outer s H vs Q E hr h => ?_
 ·obtain ⟨ds, o, r, e, _⟩ := h
  rw [← r.length, runX_len e, hnp]
 ·obtain ⟨ds, o, r, e, kk⟩ := h
  refine ⟨_, hbody cdv A outer s H E hr, ?_⟩
  have hl := runX_len e
  unfold runX at e
  rw [if_pos hl] at e
  have rs := rs_start (nl := nl) .no r (N := N) (by omega)
  split at e
  ·rename_i d' eg
   cases e
   exact ⟨_, _, _, rs, eg, fun v H' z _ => by
    obtain ⟨A', t, nd, fr⟩ := z.2.1 rfl
    exact kk v H' A' z.1 t nd fr⟩
  ·rename_i δ' eg
   cases e
   exact ⟨_, _, _, rs, eg, fun σ' H' R' rs' _ => kk .non H' [] rs'.keep ⟨rfl, rfl⟩ List.nodup_nil (fun a z => nomatch z)⟩
  ·rename_i c δ' eg
   cases e
   exact ⟨_, _, _, rs, eg, fun σ' H' R' rs' _ => kk H' rs'.keep⟩
  ·cases e
structure DefX (P : Program) (w : World) (K : PySem.W.Frag) (mg : Str → Option Value) (base : Heap) (k : Nat) (x : Str) (sp : Sp) : Prop where
 ok : ∃ (f : Addr) (fd : FuncData) (ps : List Str), mg x = some (.ref f) ∧ PySem.W.keepIn K (.ref f) = true ∧ Binds K fd ps [] ∧ FnOk P w K mg base (CXE P w) k f fd ps sp
def XW (X : Cx) (cl : Nat → Value) (RX : XR) : Prop := ∀ (pins : List (Addr × Obj)) (σ : St) (H : Hp) (s : Shared) (ea T : Addr) (c : Nat), Inv X pins σ H s → FpX X pins H ea → FpX X pins H T → Thr s.heap ea T (cl c) → RX c σ H → X.xe (.ref ea) s
theorem xw_def {N : List Str} {qual : Str} {scope : Scope} {f : Addr} {cd : Value} {A : Around} {outer : List Env} {s : Shared} {H : Hp} {E : XK} {cl : Nat → Value} : XW (cxOf (CXE P w) P w K mg base N qual scope f cd A outer s H E) cl (defRX cl E) := by
 intro pins σ H1 s1 ea T c I fe fT th hE
 refine leaving_eq (note_next (base := base) (outer := outer) I.ok.frames I.stack rfl th fun h' G => ?_)
 have I' := I.gone G fun b hb => by
  rcases List.mem_cons.mp hb with rfl | hb
  ·exact fe
  ·rw [List.mem_singleton.mp hb]; exact fT
 obtain ⟨T', hT, th'⟩ := G.thr
 have he : s.heap.get? ea = none := by
  rcases fe.2.2.1 with z | z
  ·exact absurd (show ea ∈ ([] : List Addr) from z) (by simp)
  ·exact z
 exact ⟨ea, T', cl c, H1, rfl, I'.os, I'.bare, I'.base, I'.hok, he, Heap.get?_none_of_le (Nat.le_trans I.sz hT), fe.1, I.hok.fresh hT, th', hE⟩
theorem want_def {N : List Str} {qual : Str} {scope : Scope} {f C : Addr} {cd : Value} {A : Around} {outer : List Env} {s : Shared} {H : Hp} {E : XK} {cl : Nat → Value} {c : Nat} (hc : cl c = .ref C) : Want (cxOf (CXE P w) P w K mg base N qual scope f cd A outer s H E) C (defRX cl E c) :=
 fun pins σ H1 s1 e I hf ht hE => raise_out I hf ht (by rw [← hc]; exact hE)
end
section
variable {X : Cx} {k : Nat} {f : Addr} {fd : FuncData} {ps : List Str} {sp : Sp} {cl : Nat → Value} {RX : XR}
theorem run_fnX {pins : List (Addr × Obj)} {σ : St} {H : Hp} {s : Shared} {Q : VK} {us : List Value} {vs : List V} (F : FnOk X.prog X.w X.K X.mg X.base (CXE X.prog X.w) k f fd ps sp) (hr : Room k X.A) (hb : Binds X.K fd ps []) (hW : XW X cl RX)
  (I : Inv X pins σ H s) (r : Vals vs us) (h : sp vs H Q (fun cls _ H' => ∃ c, cls = cl c ∧ RX c σ H')) : wpAny (model X.prog X.w) X.A (call (.ref f) us) (EP X pins σ Q) X.xe s := by
 have hl : us.length = ps.length := by rw [← r.length]; exact F.len _ _ _ _ h
 have hb' := hb s us I.kIn (by rw [List.append_nil]; exact hl)
 rw [List.append_nil] at hb'
 refine wpAny_call (codeAny_mono (F.run X.A X.stack s H ⟨us, []⟩ us vs Q _ hr I.env0 hb' r h) fun r s' hq => ?_)
 cases r with
 | error e =>
  obtain ⟨ea, T, cls, H', rfl, os, bare, un, hok, h1, h2, h3, h4, th, c, rfl, rx⟩ := hq
  exact hW pins σ H' s' ea T c (I.call' os un hok bare fun b hb => nomatch hb) (I.fpX h1 h3) (I.fpX h2 h4) th rx
 | ok fl =>
  cases fl with
  | ret u => exact I.after hq
  | next => exact False.elim hq
  | brk => exact False.elim hq
  | cont => exact False.elim hq
end
end L2
namespace L2
open PySem PySem.Spec PyProof.Rows
section
variable {X : Cx} {k : Nat} {sp : Sp} {cl : Nat → Value} {RX : XR} {x : Str} {p pos pos2 : Pos} {e : Expr} {es : List Expr} {t : TA}
def tCallX (cl : Nat → Value) (RX : XR) (sp : Sp) (t : TA) : TE := fun σ H Q => t σ H fun vs H1 => sp vs H1 Q fun cls _ H' => ∃ c, cls = cl c ∧ RX c σ H'
theorem pe_callX (G : DefX X.prog X.w X.K X.mg X.base k x sp) (hr : Room k X.A) (hg : Gl X x) (hW : XW X cl RX) (ha : PA X (e :: es) t) (hdb : (x == ("__debug__" : Str)) = false := by decide)
  (he : starEach (e :: es) X.env = (false, eval e X.env) :: starEach es X.env := by rfl) (hpl : (backTo pos (starEach es X.env)).any (·.1) = false := by rfl) : PE X (.Call (.Name x p) (e :: es) [] pos) (tCallX cl RX sp t) := by
 obtain ⟨f, fd, ps, hm, hk, hb, ok⟩ := G.ok
 intro pins s σ H Q I h
 refine wpAny_Call_Name_kw (ld_glob I hg hm ?_ hdb)
 refine PySem.W.callWith_K (h₀ := X.base) I.ok.mod.kin hk (thn (ha pos pins s σ H _ I h) fun us s1 ⟨vs, H1, I1, r, q⟩ => ⟨I1.kIn, ?_⟩) he hpl
 exact run_fnX ok hr hb hW I1 r q
def tX (K : PySem.W.Frag) (RX : XR) (F : DS → Option XO) : TE := fun σ H Q => ∃ δ o, RepS K H noB σ δ ∧ F δ = some o ∧ (match o with
 | .val d => ∀ v H' A, Same H H' → Tree K H' d v A → A.Nodup → (∀ a ∈ A, H a = none) → Q v H'
 | .exc c => ∀ H', Same H H' → RX c σ H')
def dCallX (m : List D → Option XO) (fl : List DE) : DS → Option XO := fun δ => (dArgs fl δ).bind m
theorem px_call {m : List D → Option XO} {fl : List DE} (G : DefX X.prog X.w X.K X.mg X.base k x (spX X.K cl m)) (hr : Room k X.A) (hg : Gl X x) (hW : XW X cl RX) (ha : PAD X (e :: es) fl) (hdb : (x == ("__debug__" : Str)) = false := by decide)
  (he : starEach (e :: es) X.env = (false, eval e X.env) :: starEach es X.env := by rfl) (hpl : (backTo pos (starEach es X.env)).any (·.1) = false := by rfl) : PE X (.Call (.Name x p) (e :: es) [] pos) (tX X.K RX (dCallX m fl)) :=
 (pe_callX G hr hg hW ha hdb he hpl).imp fun σ H Q ⟨δ, o, S, q, kk⟩ => by
  unfold dCallX at q
  cases e1 : dArgs fl δ with
  | none => rw [e1] at q; cases q
  | some ds =>
   rw [e1, Option.bind_some] at q
   refine ⟨noB, δ, ds, .no, S, e1, fun vs H1 s1 r1 => ⟨ds, o, r1, q, ?_⟩⟩
   cases o with
   | val d => exact fun v H' A s' t nd fr => kk v H' A (s1.trans s') t nd fun a ha => s1.free (fr a ha)
   | exc c => exact fun H' s' => ⟨c, rfl, kk H' (s1.trans s')⟩
variable {H0 : Hp} {B0 : Addr → Prop} {fr : Bool} {F : DS → Option XO}
def exprX (F : DS → Option XO) : SS → Option Out := fun δ => (F (allV δ)).map fun o => match o with
 | .val _ => .nx δ
 | .exc c => .ex c δ
def asgX (i : Nat) (F : DS → Option XO) : SS → Option Out := fun δ => (F (allV δ)).map fun o => match o with
 | .val d => .nx (δ.set i (some (.ow d)))
 | .exc c => .ex c δ
theorem s_exprX (h : PE X e (tX X.K RX F)) (hs : swapsWith e none pos.line X.env = pure false := by rfl) : PS X (.Expr e pos) (tS X.K H0 B0 fr RX (exprX F)) := PS.imp (ps_expr h hs) fun D σ H ⟨δ, R, o, rs, q, k⟩ => by
 unfold exprX at q
 cases e1 : F (allV δ) with
 | none => rw [e1] at q; cases q
 | some o1 =>
  rw [e1] at q
  refine ⟨allV δ, o1, rs.all, e1, ?_⟩
  cases o1 with
  | val d =>
   cases q
   exact fun v H' A s t nd fr' => k σ H' R (rs.mono s) (Stp.same s)
  | exc c =>
   cases q
   exact fun H' s => k σ H' R (rs.mono s) (.same s)
theorem s_asgX {i : Nat} {st : Stmt} (h : PAsg X st i (tX X.K RX F)) : PS X st (tS X.K H0 B0 fr RX (asgX i F)) := PS.imp h fun D σ H ⟨δ, R, o, rs, q, k⟩ => by
 unfold asgX at q
 cases e1 : F (allV δ) with
 | none => rw [e1] at q; cases q
 | some o1 =>
  rw [e1] at q
  refine ⟨allV δ, o1, rs.all, e1, ?_⟩
  cases o1 with
  | val d =>
   cases q
   refine fun v H' A s t nd fr' => k _ H' (setR R i A) (rs.setOw s t nd fr') ⟨fun a o h _ => s a o h, fun r a z => ?_, fun a z => s.free z⟩
   by_cases hr : r = i
   ·subst hr; rw [setR_same] at z; exact .inr (fr' a z)
   ·rw [setR_ne hr] at z; exact .inl ⟨r, z⟩
  | exc c =>
   cases q
   exact fun H' s => k σ H' R (rs.mono s) (.same s)
end
end L2
namespace L2
open PySem PySem.Spec PyProof.Rows
abbrev Cx.suite (X : Cx) (e : Value) : Cx := { X with A := X.A.mark (some e), calm := false, xe := fun _ _ => False }
section
variable {X : Cx} {pins : List (Addr × Obj)} {σ : St} {H : Hp} {s : Shared} {e : Value}
theorem Cx.Ok.suite (ok : X.Ok) (e : Value) : (X.suite e).Ok :=
 ⟨ok.mod, ok.kind, ok.glob, ok.blt, ok.above, ok.inj, ok.has, ok.cab, (fun z => Bool.noConfusion z), ok.frames, ok.stk, ok.exf, ok.bs, ok.bsz, ok.noex, ok.exfs, ok.funs, ok.frf⟩
theorem Inv.suite (I : Inv X pins σ H s) (e : Value) : Inv (X.suite e) pins σ H s := ⟨I.ok.suite e, I.os, I.bare, I.base, I.loc, I.cell, I.free, I.freeC, I.pin, I.hok, I.len⟩
theorem Inv.unsuite (ok : X.Ok) (I : Inv (X.suite e) pins σ H s) : Inv X pins σ H s := ⟨ok, I.os, I.bare, I.base, I.loc, I.cell, I.free, I.freeC, I.pin, I.hok, I.len⟩
theorem SP.unsuite {D : Ends} {f : Flow} {s' : Shared} (ok : X.Ok) (h : SP (X.suite e) pins D f s') : SP X pins D f s' := by
 cases f with
 | next => obtain ⟨σ', H', I, q⟩ := h; exact ⟨σ', H', I.unsuite ok, q⟩
 | brk => obtain ⟨σ', H', I, q⟩ := h; exact ⟨σ', H', I.unsuite ok, q⟩
 | cont => obtain ⟨σ', H', I, q⟩ := h; exact ⟨σ', H', I.unsuite ok, q⟩
 | ret u => obtain ⟨v, σ', H', I, r, q⟩ := h; exact ⟨v, σ', H', I.unsuite ok, r, q⟩
end
theorem flight_same {M : Model} {A : Around} {E : Value → Shared → Prop} {s : Shared} {e T : Addr} {cls : Value} {Q : Unit → Shared → Prop} (th : Thr s.heap e T cls) (h : ∀ h', (∀ b o, s.heap.get? b = some o → h'.get? b = some o) → Q () { s with heap := h' }) : wpAny M A (setFlight (.ref e) none) Q E s := by
 obtain ⟨oe, vs, oT, ts, he, _, hd, h1, hTe, hT, hdT, h3, hdn⟩ := th
 unfold setFlight
 refine wpAny_bind (wpAny_field he hd h1 ?_)
 rw [if_pos (show (Value.ref T != Value.none) = true from by simp)]
 refine wpAny_setField hT hdT (Array.getElem?_eq_some_iff.mp h3).1 (h _ fun b o q => ?_)
 by_cases hb : b = T
 ·subst hb
  rw [hT] at q
  cases q
  have e1 := Heap.get?_update_self (Obj.mapFields (·.setIfInBounds 3 ((none : Option Addr).elim Value.none fun f => rawInt f))) hT (Obj.isFreed_of_fields (Obj.data_mapFields hdT _))
  rw [e1]
  congr 1
  obtain ⟨c, d, dt, sl⟩ := oT
  have hdT : dt = .fields ts := hdT
  subst hdT
  obtain ⟨hlt, h3⟩ := Array.getElem?_eq_some_iff.mp h3
  have z : ts.setIfInBounds 3 Value.none = ts := by
   apply Array.ext_getElem?
   intro i
   by_cases hi : 3 = i
   ·subst hi
    rw [Array.getElem?_setIfInBounds_self_of_lt hlt, Array.getElem?_eq_getElem hlt, h3]
   ·rw [Array.getElem?_setIfInBounds_ne hi]
  show Obj.mk c d (.fields (ts.setIfInBounds 3 Value.none)) sl = _
  rw [z]
 ·exact (Heap.get?_update_other _ _ (Ne.symm hb)).trans q
section
variable {X : Cx} {cls : Value} {x : Str} {C : Addr} {np hpos : Pos} {b₀ : Stmt} {suite : List Stmt} {rest : List ExceptHandler} {t : TS}
def PH (X : Cx) (hs : List ExceptHandler) (cls : Value) (t : TS) : Prop := ∀ (pins : List (Addr × Obj)) (s : Shared) (σ : St) (H : Hp) (D : Ends) (ea T : Addr), Inv X pins σ H s → FpX X pins H ea → Thr s.heap ea T cls → t D σ H → wpAny (model X.prog X.w) X.A (handleBy (.ref ea) X.env hs) (SP X pins D) X.xe s
theorem thr_ty {M : Model} {h : Heap} {ea T : Addr} (th : Thr h ea T cls) : PySem.W.Looks M h (typeOf (.ref ea)) cls := by
 obtain ⟨oe, vs, oT, ts, he, rfl, _⟩ := th
 exact (PySem.W.Looks.ld he).andThen .now
end
end L2
namespace L2
open PySem PySem.Spec PyProof.Rows
abbrev Cx.tried (X : Cx) (pn : List (Addr × Obj)) (xe : Value → Shared → Prop) : Cx := { X with pn := pn, xe := xe }
section
variable {X : Cx} {pins pn : List (Addr × Obj)} {xe : Value → Shared → Prop} {σ : St} {H : Hp} {s : Shared}
theorem Cx.Ok.tried (ok : X.Ok) : (X.tried pn xe).Ok :=
 ⟨ok.mod, ok.kind, ok.glob, ok.blt, ok.above, ok.inj, ok.has, ok.cab, ok.hd, ok.frames, ok.stk, ok.exf, ok.bs, ok.bsz, ok.noex, ok.exfs, ok.funs, ok.frf⟩
theorem Inv.tried (I : Inv X pins σ H s) : Inv (X.tried (X.pn ++ pins) xe) [] σ H s := ⟨I.ok.tried, I.os, I.bare, I.base, I.loc, I.cell, I.free, I.freeC, fun p hp => I.pin p (by simpa using hp), I.hok, I.len⟩
theorem Inv.untried {more : List (Addr × Obj)} (ok : X.Ok) (I : Inv (X.tried (X.pn ++ pins) xe) more σ H s) : Inv X pins σ H s := ⟨ok, I.os, I.bare, I.base, I.loc, I.cell, I.free, I.freeC, fun p hp => I.pin p (List.mem_append.mpr (.inl hp)), I.hok, I.len⟩
theorem FpX.untried {more : List (Addr × Obj)} {b : Addr} (h : FpX (X.tried (X.pn ++ pins) xe) more H b) : FpX X pins H b := ⟨h.1, h.2.1, h.2.2.1, h.2.2.2.1, fun p hp => h.2.2.2.2 p (List.mem_append.mpr (.inl hp))⟩
theorem SP.untried {more : List (Addr × Obj)} {D : Ends} {f : Flow} {s' : Shared} (ok : X.Ok) (h : SP (X.tried (X.pn ++ pins) xe) more D f s') : SP X pins D f s' := by
 cases f with
 | next => obtain ⟨σ', H', I, q⟩ := h; exact ⟨σ', H', I.untried ok, q⟩
 | brk => obtain ⟨σ', H', I, q⟩ := h; exact ⟨σ', H', I.untried ok, q⟩
 | cont => obtain ⟨σ', H', I, q⟩ := h; exact ⟨σ', H', I.untried ok, q⟩
 | ret u => obtain ⟨v, σ', H', I, r, q⟩ := h; exact ⟨v, σ', H', I.untried ok, r, q⟩
end
def tryO (gb : SS → Option Out) (gh : Nat → SS → Option Out) : SS → Option Out := fun δ => (gb δ).bind fun o => match o with
 | .nx δ' => some (.nx δ')
 | .ct δ' => some (.ct δ')
 | .bk δ' => some (.bk δ')
 | .rt d => some (.rt d)
 | .ex c δ' => gh c δ'
section
variable {X : Cx} {H0 : Hp} {B0 : Addr → Prop} {fr : Bool} {RX : XR} {cl : Nat → Value} {body : List Stmt} {h₀ : ExceptHandler} {hs : List ExceptHandler} {pos : Pos}
theorem ph_never {g : SS → Option Out} {cls : Value} (hg : ∀ δ, g δ = none) {ks : List ExceptHandler} : PH X ks cls (tS X.K H0 B0 fr RX g) := by
 intro pins s σ H D ea T I fe th ⟨δ, R, o, _, q, _⟩
 rw [hg] at q
 cases q
theorem s_try {gb : SS → Option Out} {gh : Nat → SS → Option Out} (hst : X.stack = X.env :: X.outer) (hfr : X.env.frame = some X.env.locals)
  (hb : ∀ (pn : List (Addr × Obj)) (xe : Value → Shared → Prop) (RX' : XR), XW (X.tried pn xe) cl RX' → PSs (X.tried pn xe) body (tS X.K H0 B0 fr RX' gb))
  (hh : ∀ c, PH X (h₀ :: hs) (cl c) (tS X.K H0 B0 fr RX (gh c))) : PS X (.Try body (h₀ :: hs) [] [] pos) (tS X.K H0 B0 fr RX (tryO gb gh)) := by
 intro pins s σ H D I ⟨δ, R, o, rs, q, k⟩
 unfold tryO at q
 cases e1 : gb δ with
 | none => rw [e1] at q; cases q
 | some o1 =>
  rw [e1, Option.bind_some] at q
  refine wpAny_Try_except ?_
  have ok := I.ok
  let XE : Value → Shared → Prop := fun e s₁ => wpAny (model X.prog X.w) X.A (noteFrame e X.env) (fun _ s₂ => wpAny (model X.prog X.w) X.A (setFlight e none) (fun _ s₃ => wpAny (model X.prog X.w) X.A (handleBy e X.env (h₀ :: hs)) (SP X pins D) X.xe s₃) X.xe s₂) X.xe s₁
  have hW : XW (X.tried (X.pn ++ pins) XE) cl (fun c σ' H' => tS X.K H0 B0 fr RX (gh c) D σ' H') := by
   intro pins' σ' H' s' ea T c I' fe fT th hR
   have I2 : Inv X pins σ' H' s' := I'.untried ok
   have hf2 := ok.frames
   have hs2 := I2.stack
   rw [hst] at hf2 hs2
   refine note_next (base := X.base) (outer := X.outer) hf2 hs2 hfr th fun h' G => ?_
   rw [← hst] at G
   have I3 := I2.gone G fun b hb => by
    rcases List.mem_cons.mp hb with rfl | hb
    ·exact fe.untried
    ·rw [List.mem_singleton.mp hb]; exact fT.untried
   obtain ⟨T', _, th'⟩ := G.thr
   exact hh c pins _ σ' H' D ea T' I3 fe.untried th' hR
  have run := hb (X.pn ++ pins) XE _ hW [] s σ H D I.tried ⟨δ, R, o1, rs, e1, by
   cases o1 with
   | nx δ' => cases q; exact k
   | ct δ' => cases q; exact k
   | bk δ' => cases q; exact k
   | rt d => cases q; exact k
   | ex c δ' => exact fun σ' H' R' rs' s' => ⟨δ', R', o, rs', q, k.back s'⟩⟩
  refine wpAny_mono run (fun f s₁ z => ?_) fun _ _ z => z
  have z := z.untried ok
  cases f with
  | next => exact wpAny_execs_nil z
  | brk => exact z
  | cont => exact z
  | ret u => exact z
end
end L2
namespace L2
open PySem PySem.Spec PyProof.Rows
section
variable {K : PySem.W.Frag} {H0 H : Hp} {B0 : Addr → Prop} {σ : St} {δ : SS} {R : Nat → List Addr}
end
section
variable {X : Cx} {H0 : Hp} {B0 : Addr → Prop} {fr : Bool} {RX : XR} {pos : Pos} {st : Stmt}
end
end L2
namespace L2
open PySem PySem.Spec PyProof.Rows
section
variable {X : Cx}
end
def revS : D → Option (List D)
 | .lst ds => some ds.reverse
 | _ => none
section
variable {X : Cx}
end
end L2
namespace L2
open PySem PySem.Spec PyProof.Rows
section
variable {X : Cx} {c e : Expr} {fc : DS → Option Bool} {fe : DE} {f g : DS → Option (Option D)} {st : Stmt} {sts : List Stmt} {p1 pos : Pos}
end
section
variable {X : Cx} {H0 : Hp} {B0 : Addr → Prop} {fr : Bool} {RX : XR} {pos : Pos}
end
end L2
namespace L2
open PySem PySem.Spec PyProof.Rows
abbrev bmVE : List Value := [.type "ValueError", .type "Exception", .type "BaseException", .type "object"]
theorem own_mk {K : PySem.W.Frag} {h : Heap} {mg : Str → Option Value} {x : Str} {C : Addr} {bl : List Value} {nid : String} (X : K.In h) (G : h.Ns mainGlobals mg) (ha : PySem.W.nsIn K mainGlobals x = some (some (.ref C))) (hq : PySem.W.excIn K C bl nid = true) : OwnCls x C bl nid mg h := by
 refine ⟨PySem.W.mg_of X G ha, ?_⟩
 unfold PySem.W.excIn at hq
 cases hk : K.lookup C with
 | none => rw [hk] at hq; cases hq
 | some ob =>
  rw [hk] at hq
  have hat := X _ _ hk
  split at hq
  case h_2 => cases hq
  case h_1 od cls sl z =>
   cases z
   split at hq
   case h_2 => cases hq
   case h_1 C1 tl b0 b1 b2 b3 n b5 em es =>
    simp only [Bool.and_eq_true, beq_iff_eq, Bool.not_eq_true'] at hq
    obtain ⟨⟨⟨⟨⟨z1, z2⟩, z3⟩, z4⟩, z5⟩, z6⟩ := hq
    cases cls with
    | mk nm bs mro ns qn hd sn sub ab col del =>
     cases sl with
     | mk l =>
      dsimp only at em es z3 z5 z6
      rw [em, es, z3, z1, z2] at hat
      exact ⟨tl, ns, nm, qn, bs, hd, sn, sub, ab, col, od, b0, b1, b2, b3, b5, _, hat, .of_isNs (PySem.W.isNs_of_in X z5), PySem.W.nsMap_none_of_in X z5 z6, PySem.W.tail_of_in X z4⟩
section
variable {X : Cx} {x : Str} {C : Addr} {np cpos pos : Pos} {e₀ : Expr} {H0 : Hp} {B0 : Addr → Prop} {fr : Bool} {RX : XR}
theorem s_raiseV {c : Nat} {f : DE} (hc : X.calm = true) (hg : Gl X x) (O : OwnCls x C bmVE "ValueError.__new__" X.mg X.base) (hW : Want X C (RX c)) (h : PD X e₀ f)
  (he : starEach [e₀] X.env = [(false, eval e₀ X.env)] := by rfl) (hd : (x == ("__debug__" : Str)) = false := by decide) : PS X (.Raise (some (.Call (.Name x np) [e₀] [] cpos)) none pos) (tS X.K H0 B0 fr RX (raiseO c f)) :=
 s_raise hc hg O PySem.F.excBase_ValueError (by decide) PySem.F.excBase_ValueError hW h he hd
end
end L2
namespace L2
open PySem PySem.Spec PyProof.Rows
section
variable {X : Cx} {k : Nat} {cl : Nat → Value} {x : Str} {p pos : Pos} {e : Expr} {es : List Expr}
end
end L2
namespace L2
open PySem PySem.Spec PyProof.Rows
section
variable {X : Cx} {pins : List (Addr × Obj)} {σ : St} {H : Hp} {s : Shared}
theorem Inv.adopt {a : Addr} {u : HO} (I : Inv X pins σ H s) (fa : FpX X pins H a) (new : ObjOk X.prog X.w (upd H a u) s.heap a u) : Inv X pins σ (upd H a u) s := by
 have ne : ∀ b w, H b = some w → b ≠ a := fun b w q z => by rw [z, fa.1] at q; cases q
 have up : ∀ b w, H b = some w → upd H a u b = some w := fun b w q => by rw [upd_ne (ne b w q)]; exact q
 have dn : ∀ b, b ≠ a → H b = none → upd H a u b = none := fun b hb q => by rw [upd_ne hb]; exact q
 refine ⟨I.ok, I.os, I.bare, ⟨I.base.keep, I.base.slot, fun b o q n hx => dn b (fun z => ?_) (I.base.free b o q n hx), I.base.there, fun b xs q => up b _ (I.base.tups b xs q), fun b o w q => up b _ (I.base.frzs b o w q), fun b ps q => ?_⟩, I.loc, I.cell, dn _ (Ne.symm fa.2.1) I.free, fun x c q => dn c (fa.2.2.2.1 x c q) (I.freeC x c q), fun p hp => ?_, fun b w q => ?_, I.len⟩
 ·rcases fa.2.2.1 with y | y
  ·exact hx (z ▸ y)
  ·rw [z, y] at q; cases q
 ·obtain ⟨more, q'⟩ := I.base.tbls b ps q
  exact ⟨more, up b _ q'⟩
 ·obtain ⟨e1, e2, e3⟩ := I.pin p hp
  exact ⟨e1, dn p.1 (fa.2.2.2.2 p hp) e2, e3⟩
 ·by_cases hb : b = a
  ·subst hb
   rw [upd_same] at q
   cases q
   exact new
  ·rw [upd_ne hb] at q
   exact (I.hok b w q).stay (fun _ _ _ e => e) (fun c z => up c _ z) fun c xs z => up c _ z
theorem gone_ok {M : Model} {A : Around} {E : Value → Shared → Prop} {i : Nat} {x : Str} {pos : Pos} {Q : Unit → Shared → Prop} (I : Inv X pins σ H s) (hN : X.N.Nodup) (hi : X.N[i]? = some x) (hk : X.env.scope.names.lookup x = some .local)
  (h : ∀ s', Inv X pins (σ.set i none) H s' → Q () s') : wpAny M A (do bindName X.env x .none; unbindBehindTheSuite X.env x pos) Q E s := by
 obtain ⟨m, hn, hl⟩ := id I.loc
 have hcl : (X.env.scope.kind == .class || (X.env.scope.kind == .module && X.env.locals != X.env.globals)) = false := by rw [I.ok.kind]; rfl
 refine wpAny_nameGoes_keeps hk hn hcl fun g v hg hs => h _ ?_
 have old : ∀ b o, X.s₀.heap.get? b = some o → b ≠ X.env.locals := fun b o q => Nat.ne_of_lt (Nat.lt_of_lt_of_le (Heap.lt_size q) I.ok.above)
 refine ⟨I.ok, I.os, I.bare, ⟨fun b o q n hb hx => (hs.2 b (old b o q)).trans (I.base.keep b o q n hb hx), fun b o q n hb hx => ?_, I.base.free, fun b o q hx => ?_, I.base.tups, I.base.frzs, I.base.tbls⟩, ⟨_, hg, fun j y w e1 e2 e3 => ?_⟩, fun y c q => ?_, I.free, I.freeC, fun p hp => ?_, fun b w q => ?_, by simpa using I.len⟩
 ·obtain ⟨sl, q1⟩ := I.base.slot b o q n hb hx
  exact ⟨sl, (hs.2 b (old b o q)).trans q1⟩
 ·obtain ⟨o', q1⟩ := I.base.there b o q hx
  exact ⟨o', (hs.2 b (old b o q)).trans q1⟩
 ·have hji : j ≠ i := fun z => by
   subst z
   rw [List.getElem?_set] at e2
   simp only [if_true] at e2
   split at e2 <;> cases e2
  rw [List.getElem?_set_ne (Ne.symm hji)] at e2
  obtain ⟨u', r', q⟩ := hl j y w e1 e2 e3
  refine ⟨u', r', ?_⟩
  have hyx : y ≠ x := fun z => hji (nodup_ix hN e1 (z ▸ hi))
  rcases q with ⟨k, q⟩ | ⟨k, c, q, z⟩
  ·exact .inl ⟨k, by simp [hyx, q]⟩
  ·exact .inr ⟨k, c, q, z.sameBut hs (I.cne y c q)⟩
 ·obtain ⟨w', z⟩ := I.cell y c q
  exact ⟨w', z.sameBut hs (I.cne y c q)⟩
 ·obtain ⟨q, n, ne, nf, d⟩ := I.pin p hp
  exact ⟨(hs.2 p.1 ne).trans q, n, ne, nf, d⟩
 ·refine (I.hok b w q).stay (fun c o hc e => (hs.2 c fun z => ?_).trans e) (fun _ z => z) fun _ _ z => z
  subst z
  rcases hc with z | z
  ·rw [← z, I.free] at q; cases q
  ·rw [I.free] at z; cases z
end
def tAs (i : Nat) (C : Addr) (t : TS) : TS := fun D σ H => ∀ a, H a = none → t ⟨fun σ' H' => D.nx (σ'.set i none) H', D.rt, fun σ' H' => D.bk (σ'.set i none) H', fun σ' H' => D.ct (σ'.set i none) H'⟩ (σ.set i (some (.ref a))) (upd H a (.ext (isX a C)))
section
variable {X : Cx} {x n : Str} {C Ca : Addr} {np hpos : Pos} {b₀ : Stmt} {suite : List Stmt} {rest : List ExceptHandler} {t : TS} {i : Nat}
theorem ph_as (hg : Gl X x) (hm : X.mg x = some (.ref C)) (hx : PySem.W.exmOne X.K (.ref Ca) (.ref C) = some true) (hN : X.N.Nodup) (hi : X.N[i]? = some n) (hk : X.env.scope.names.lookup n = some .local) (hb : ∀ e, PSs (X.suite e) (b₀ :: suite) t) (hdb : (x == ("__debug__" : Str)) = false := by decide) :
  PH X (.ExceptHandler (some (.Name x np)) (some n) (b₀ :: suite) hpos :: rest) (.ref Ca) (tAs i Ca t) := by
 intro pins s σ H D ea T I fe th h
 refine wpAny_handleBy_cons (codeAny_handlers_test (ld_glob (I.suite (.ref ea)) hg hm ?_ hdb)) (by intro q; cases q)
 refine (PySem.W.exm_one I.kIn (thr_ty th) hx).here ?_
 obtain ⟨oe, vs, oT, ts, he, hc, hd, _, _, _, _, _, hdn⟩ := id th
 refine codeAny_handlers_suite_as (flight_same th fun h' kp => ?_)
 have I1 : Inv X pins σ H { s with heap := h' } := I.kept (t' := s.toks) kp
 have hO : ObjOk X.prog X.w (upd H ea (.ext (isX ea Ca))) h' ea (.ext (isX ea Ca)) := by
  refine ⟨⟨oe, kp _ _ he, hc, hdn, by unfold PySem.W.notCls; rw [hd]⟩, ⟨oe, kp _ _ he⟩, fun h1 h2 z k => ?_⟩
  obtain ⟨o, z1, z2⟩ := z
  exact ⟨o, k o z1, z2⟩
 have I2 := I1.adopt fe hO
 refine store_ok I2 hN hi (.inl hk) (v := .ref ea) rfl (fun s2 I3 => ?_) (.inr hk)
 refine wpAny_mono (hb (.ref ea) pins s2 _ _ _ (I3.suite (.ref ea)) (h ea fe.1)) (fun f s3 q => ?_) fun _ _ z => z.elim
 have q := q.unsuite I.ok
 cases f with
 | next => obtain ⟨σ', H', J, q⟩ := q; exact gone_ok J hN hi hk fun s4 J4 => ⟨_, H', J4, q⟩
 | brk => obtain ⟨σ', H', J, q⟩ := q; exact gone_ok J hN hi hk fun s4 J4 => ⟨_, H', J4, q⟩
 | cont => obtain ⟨σ', H', J, q⟩ := q; exact gone_ok J hN hi hk fun s4 J4 => ⟨_, H', J4, q⟩
 | ret u => obtain ⟨v, σ', H', J, r, q⟩ := q; exact gone_ok J hN hi hk fun s4 J4 => ⟨v, _, H', J4, r, q⟩
end
section
variable {K : PySem.W.Frag} {H0 H : Hp} {B0 : Addr → Prop} {σ : St} {δ : SS} {R : Nat → List Addr}
theorem RS.unset {i : Nat} (h : RS K H0 B0 H σ δ R) : RS K H0 B0 H (σ.set i none) (δ.set i none) R := by
 have gs : ∀ {j : Nat} {y : SD}, (δ.set i none)[j]? = some (some y) → j ≠ i ∧ δ[j]? = some (some y) := fun {j y} e => by
  rcases get_set e with ⟨_, q, _⟩ | q
  ·cases q
  ·exact q
 have up : ∀ {j : Nat} {w : V}, j ≠ i → σ[j]? = some (some w) → (σ.set i none)[j]? = some (some w) := fun hj e => by rw [List.getElem?_set_ne (Ne.symm hj)]; exact e
 refine ⟨h.keep, h.inB, by simp [h.len], h.new, h.held, h.disj, fun j d z => ?_, fun j r d z => ?_, fun j d z => ?_⟩
 ·obtain ⟨hj, q⟩ := gs z
  obtain ⟨v, e, r⟩ := h.sh j d q
  exact ⟨v, up hj e, r⟩
 ·obtain ⟨hj, q⟩ := gs z
  obtain ⟨v, e, r⟩ := h.bo j r d q
  exact ⟨v, up hj e, r⟩
 ·obtain ⟨hj, q⟩ := gs z
  obtain ⟨v, e, r⟩ := h.ow j d q
  exact ⟨v, up hj e, r⟩
def unO (i : Nat) : Out → Option Out
 | .nx δ => some (.nx (δ.set i none))
 | .bk δ => some (.bk (δ.set i none))
 | .ct δ => some (.ct (δ.set i none))
 | .rt d => some (.rt d)
 | .ex _ _ => none
def asXO (i : Nat) (x : Str) (g : SS → Option Out) : SS → Option Out := fun δ => (g (δ.set i (some (.sh (.exc x))))).bind (unO i)
theorem PH.imp {X : Cx} {hs : List ExceptHandler} {cls : Value} {t t' : TS} (h : PH X hs cls t) (w : ∀ D σ H, t' D σ H → t D σ H) : PH X hs cls t' := fun pins s σ H D ea T I fe th q => h pins s σ H D ea T I fe th (w D σ H q)
theorem as_tS {i : Nat} {x : Str} {Ca : Addr} {fr : Bool} {RX : XR} {g : SS → Option Out} (hx : PySem.W.nsIn K mainGlobals x = some (some (.ref Ca))) (hb : xclsB K Ca = true) : ∀ D σ H, tS K H0 B0 fr RX (asXO i x g) D σ H → tAs i Ca (tS K H0 B0 fr RX g) D σ H := by
 rintro D σ H ⟨δ, R, o, rs, q, k⟩ a ha
 unfold asXO at q
 cases e1 : g (δ.set i (some (.sh (.exc x)))) with
 | none => rw [e1] at q; cases q
 | some o1 =>
  rw [e1, Option.bind_some] at q
  have sm : Same H (upd H a (.ext (isX a Ca))) := same_upd ha
  have nb : ¬ (B0 a ∨ ∃ r, a ∈ R r) := fun z => by
   obtain ⟨o', q'⟩ := rs.inAll a z
   rw [ha] at q'; cases q'
  have rs1 := (rs.mono sm).setSh (i := i) (d := .exc x) (v := .ref a) (by unfold Rep; exact ⟨a, Ca, rfl, nb, upd_same, hx, hb⟩)
  refine ⟨_, R, o1, rs1, e1, ?_⟩
  have k := k.back (Stp.same sm)
  cases o1 with
  | nx δ' => cases q; exact fun σ' H' R' rs' s' => k _ H' R' rs'.unset s'
  | bk δ' => cases q; exact fun σ' H' R' rs' s' => k _ H' R' rs'.unset s'
  | ct δ' => cases q; exact fun σ' H' R' rs' s' => k _ H' R' rs'.unset s'
  | rt d => cases q; exact k
  | ex c δ' => cases q
end
def isXF (L N : List Str) : D → Option D
 | .exc x => if N.contains x = true then some (.bl (L.contains x)) else none
 | _ => none
section
variable {X : Cx} {e : Expr} {f : DE} {y : Str} {p p2 pos : Pos} {L N : List Str}
theorem pe_gl {x : Str} {C : Addr} (hg : Gl X x) (hm : X.mg x = some (.ref C)) (hd : (x == ("__debug__" : Str)) = false := by decide) : PE X (.Name x pos) (tC (.ref C)) := fun _ _ _ H _ I h => ld_glob I hg hm ⟨.ref C, H, I, rfl, h⟩ hd
theorem call_isX {w : V} {c : Value} (hw : RelV w c) (hu : ∀ u, RelV w u → u = c) : CallR X (.builtin "isinstance") (fun xs H Q => ∃ B x v b, xs = [v, w] ∧ Rep X.K H B (.exc x) v ∧ (∀ C, PySem.W.nsIn X.K mainGlobals x = some (some (.ref C)) → PySem.W.kitOne X.K (.ref C) c = some b) ∧ Q (.bl b) H) := by
 intro pins s σ H xs us Q I r h
 obtain ⟨B, x, v, b, rfl, rv, hk, q⟩ := h
 obtain ⟨u, w', rfl, r1, r2⟩ := vals2 r
 have e := hu w' r2
 subst e
 unfold Rep at rv
 obtain ⟨a, C, rfl, _, hq, hn, hx⟩ := rv
 cases r1
 obtain ⟨o, ie⟩ := exc_at I hq
 exact PySem.W.kia_one (kitx_exc hx) I.kIn ie (hk C hn) (fun z => nomatch z) fun tk => ⟨.bl b, H, I.tok tk, rfl, q⟩
theorem rel_ref {C : Addr} : ∀ u, RelV (.ref C) u → u = .ref C := fun _ r => r
theorem rel_ty {T : String} : ∀ u, RelV (.ty T) u → u = .type T := fun _ r => r
theorem pd_isX {w : V} {c : Value} (hw : RelV w c) (hu : ∀ u, RelV w u → u = c) (hc : PE X (.Name y p2) (tC w)) (hk : ∀ x, x ∈ N → ∀ C, PySem.W.nsIn X.K mainGlobals x = some (some (.ref C)) → PySem.W.kitOne X.K (.ref C) c = some (L.contains x)) (hg : Gl X "isinstance") (hm : X.mg "isinstance" = none) (h : PD X e f)
  (he : starEach [e, .Name y p2] X.env = [(false, eval e X.env), (false, eval (.Name y p2) X.env)] := by rfl) (he2 : starEach [.Name y p2] X.env = [(false, eval (.Name y p2) X.env)] := by rfl) : PD X (.Call (.Name "isinstance" p) [e, .Name y p2] [] pos) (d1 (isXF L N) f) :=
 (pe_callB (call_isX hw hu) hg hm boot_isinstance (pa_cons h (pa_cons hc pa_nil he2) (by rw [he, he2])) (by decide) (by decide) (by rw [he, he2]) (by rw [he2]; rfl)).imp fun σ H Q ⟨B, δ, d, hB, S, q, k⟩ => by
  unfold d1 at q
  cases e1 : f δ with
  | none => rw [e1] at q; cases q
  | some d' =>
   rw [e1, Option.bind_some] at q
   unfold isXF at q
   split at q
   ·rename_i x
    split at q
    ·rename_i hn
     cases q
     exact ⟨B, δ, _, hB, S, e1, fun v H1 s1 r1 => ⟨B, x, v, _, rfl, r1, hk x (List.contains_iff_mem.mp hn), k _ H1 s1 rfl⟩⟩
    ·cases q
   ·cases q
theorem pd_isXr {C : Addr} (hy : Gl X y) (hmy : X.mg y = some (.ref C)) (hk : ∀ x, x ∈ N → ∀ B, PySem.W.nsIn X.K mainGlobals x = some (some (.ref B)) → PySem.W.kitOne X.K (.ref B) (.ref C) = some (L.contains x)) (hg : Gl X "isinstance") (hm : X.mg "isinstance" = none) (h : PD X e f)
  (he : starEach [e, .Name y p2] X.env = [(false, eval e X.env), (false, eval (.Name y p2) X.env)] := by rfl) (he2 : starEach [.Name y p2] X.env = [(false, eval (.Name y p2) X.env)] := by rfl) (hd : (y == ("__debug__" : Str)) = false := by decide) : PD X (.Call (.Name "isinstance" p) [e, .Name y p2] [] pos) (d1 (isXF L N) f) :=
 pd_isX (w := .ref C) (c := .ref C) rfl rel_ref (pe_gl hy hmy hd) hk hg hm h he he2
theorem pd_isXt {T : String} (hy : Gl X y) (hmy : X.mg y = none) (hv : bootBuiltins y = some (.type T)) (hk : ∀ x, x ∈ N → ∀ B, PySem.W.nsIn X.K mainGlobals x = some (some (.ref B)) → PySem.W.kitOne X.K (.ref B) (.type T) = some (L.contains x)) (hg : Gl X "isinstance") (hm : X.mg "isinstance" = none) (h : PD X e f)
  (he : starEach [e, .Name y p2] X.env = [(false, eval e X.env), (false, eval (.Name y p2) X.env)] := by rfl) (he2 : starEach [.Name y p2] X.env = [(false, eval (.Name y p2) X.env)] := by rfl) (hn : y ≠ "__name__" := by decide) (hd : (y == ("__debug__" : Str)) = false := by decide) : PD X (.Call (.Name "isinstance" p) [e, .Name y p2] [] pos) (d1 (isXF L N) f) :=
 pd_isX (w := .ty T) (c := .type T) rfl rel_ty (pe_bltn (v := .ty T) hy hmy hv rfl hn hd) hk hg hm h he he2
end
theorem k_one {P : Str → Prop} {c : Str} {r : List Str} (h : P c) (hr : ∀ x, x ∈ r → P x) : ∀ x, x ∈ c :: r → P x := fun x hx => by
 rcases List.mem_cons.mp hx with z | z
 ·rw [z]; exact h
 ·exact hr x z
theorem k_nil {P : Str → Prop} : ∀ x, x ∈ ([] : List Str) → P x := fun _ h => nomatch h
section
variable {X : Cx} {H0 : Hp} {B0 : Addr → Prop} {fr : Bool} {RX : XR} {x n xn : Str} {C Ca : Addr} {np hpos : Pos} {b₀ : Stmt} {suite : List Stmt} {rest : List ExceptHandler} {g : SS → Option Out} {i : Nat}
theorem ph_asS (hn : PySem.W.nsIn X.K mainGlobals xn = some (some (.ref Ca))) (hxb : xclsB X.K Ca = true) (hg : Gl X x) (hm : X.mg x = some (.ref C)) (hx : PySem.W.exmOne X.K (.ref Ca) (.ref C) = some true) (hN : X.N.Nodup) (hi : X.N[i]? = some n) (hk : X.env.scope.names.lookup n = some .local) (hb : ∀ e, PSs (X.suite e) (b₀ :: suite) (tS X.K H0 B0 fr RX g)) (hdb : (x == ("__debug__" : Str)) = false := by decide) :
  PH X (.ExceptHandler (some (.Name x np)) (some n) (b₀ :: suite) hpos :: rest) (.ref Ca) (tS X.K H0 B0 fr RX (asXO i xn g)) := PH.imp (ph_as hg hm hx hN hi hk hb hdb) (as_tS hn hxb)
end
end L2
namespace L2
open PySem PySem.Spec PyProof.Rows
def tNs (K : PySem.W.Frag) (f : DS → Option (List D)) : TA := fun σ H Q => ∃ δ ds, RepS K H noB σ δ ∧ f δ = some ds ∧ ∀ vs H' A, Same H H' → Trees K H' ds vs A → A.Nodup → (∀ a ∈ A, H a = none) → Q vs H'
abbrev PAN (X : Cx) (es : List Expr) (fl : List DE) : Prop := PA X es (tNs X.K (dArgs fl))
theorem Trees.len {K : PySem.W.Frag} {H : Hp} : ∀ {ds : List D} {xs : List V} {A : List Addr}, Trees K H ds xs A → ds.length = xs.length
 | [], _, _, h => by unfold Trees at h; rw [h.1]; rfl
 | d :: ds, _, _, h => by
  unfold Trees at h
  obtain ⟨x, r, C, C', rfl, _, h2, _⟩ := h
  simp [Trees.len h2]
section
variable {X : Cx} {e : Expr} {es : List Expr} {pos : Pos}
theorem pan_nil : PAN X [] [] := pa_nil.imp fun σ H Q ⟨δ, ds, S, q, k⟩ => by
 cases q
 exact k [] H [] (.refl H) ⟨rfl, rfl⟩ List.nodup_nil (fun a z => nomatch z)
theorem pan_cons {f : DE} {fl : List DE} (ha : PN X e f) (hr : PAN X es fl) (hs : starEach (e :: es) X.env = (false, eval e X.env) :: starEach es X.env := by rfl) : PAN X (e :: es) (f :: fl) := (pa_cons ha hr hs).imp fun σ H Q ⟨δ, ds, S, q, k⟩ => by
 obtain ⟨x, xs, e1, e2, rfl⟩ := dArgs_some q
 refine ⟨δ, x, S, e1, fun v H1 A s1 t1 nd1 f1 => ⟨δ, xs, S.mono s1, e2, fun vs H2 C s2 t2 nd2 f2 => ?_⟩⟩
 refine k (v :: vs) H2 (A ++ C) (s1.trans s2) ?_ ?_ fun a ha => ?_
 ·unfold Trees
  exact ⟨v, vs, A, C, rfl, t1.mono s2, t2, rfl⟩
 ·refine List.nodup_append.mpr ⟨nd1, nd2, fun a ha b hb z => ?_⟩
  subst z
  obtain ⟨o, q', _⟩ := t1.held x a ha
  rw [f2 a hb] at q'; cases q'
 ·rcases List.mem_append.mp ha with z | z
  ·exact f1 a z
  ·exact s1.free (f2 a z)
theorem pn_list {fl : List DE} (h : PAN X es fl) (hl : fl.length ≤ 1000 := by decide) : PN X (.List es pos) (mkL (dArgs fl)) := (pe_lst h).imp fun σ H Q ⟨δ, d, S, q, k⟩ => by
 unfold mkL at q
 cases r : dArgs fl δ with
 | none => rw [r] at q; cases q
 | some ds =>
  rw [r] at q
  cases q
  refine ⟨δ, ds, S, r, fun vs H1 A s1 t1 nd fa => ⟨?_, fun p hp => ?_⟩⟩
  ·rw [← t1.len, dArgs_length r]
   exact Nat.le_of_lt (small1000 hl)
  ·have sp := same_upd (o := .lst vs) hp
   refine k (.ref p) _ (p :: A) (s1.trans sp) ?_ (List.nodup_cons.mpr ⟨fun z => ?_, nd⟩) fun a ha => ?_
   ·unfold Tree
    exact ⟨p, vs, A, rfl, upd_same, t1.mono sp, rfl⟩
   ·obtain ⟨o, q', _⟩ := Trees.held ds t1 p z
    rw [hp] at q'; cases q'
   ·rcases List.mem_cons.mp ha with z | z
    ·rw [z]; exact s1.free hp
    ·exact fa a z
variable {H0 : Hp} {B0 : Addr → Prop} {RX : XR} {a b : Expr} {pos' : Pos}
def ownV (δ : SS) (i : Nat) : Option D := match δ[i]? with
 | some (some (.ow d)) => some d
 | some (some (.sh d)) => if d.imm = true then some d else none
 | _ => none
def ret2 (i j : Nat) : SS → Option Out := fun δ => match ownV δ i, ownV δ j with
 | some d, some e => some (.rt (.lst [d, e]))
 | _, _ => none
theorem own_tree {K : PySem.W.Frag} {H : Hp} {σ : St} {δ : SS} {R : Nat → List Addr} {i : Nat} {d : D} (rs : RS K H0 B0 H σ δ R) (h : ownV δ i = some d) : ∃ v A, σ[i]? = some (some v) ∧ Tree K H d v A ∧ A.Nodup ∧ ∀ a ∈ A, a ∈ R i := by
 unfold ownV at h
 split at h
 ·rename_i d' e
  cases h
  obtain ⟨v, e1, t, nd⟩ := rs.ow i _ e
  exact ⟨v, R i, e1, t, nd, fun a z => z⟩
 ·rename_i d' e
  split at h
  ·rename_i hi
   cases h
   obtain ⟨v, e1, r⟩ := rs.sh i _ e
   exact ⟨v, [], e1, r.immTree _ hi, List.nodup_nil, (fun a z => nomatch z)⟩
  ·cases h
 ·cases h
end
end L2
namespace L2
open PySem PySem.Spec PyProof.Rows
section
variable {X : Cx} {k : Nat} {x : Str} {p pos : Pos} {e : Expr} {es : List Expr}
end
end L2
namespace L2
open PySem PySem.Spec PyProof.Rows
def repLs : D → D → Option (List D)
 | .lst ds, .int k => if (0 ≤ k ∧ k ≤ 1000000) ∧ ds.length * k.toNat ≤ sizeLine then some (List.replicate k.toNat ds).flatten else none
 | _, _ => none
def dRep (f g : DE) : DS → Option (List D) := fun δ => (f δ).bind fun x => (g δ).bind fun y => repLs x y
theorem Reps.rep {K : PySem.W.Frag} {H : Hp} {B : Addr → Prop} {ds : List D} {xs : List V} (h : Reps K H B ds xs) : ∀ n : Nat, Reps K H B (List.replicate n ds).flatten (List.replicate n xs).flatten
 | 0 => (show Reps K H B [] [] by unfold Reps; rfl)
 | n + 1 => by
  rw [List.replicate_succ, List.replicate_succ, List.flatten_cons, List.flatten_cons]
  exact h.append (Reps.rep h n)
def dIxX (F : DS → Option XO) (g : DE) : DS → Option XO := fun δ => match F δ with
 | some (.val d) => (g δ).bind fun y => (ixD d y).bind fun z => if z.imm = true then some (.val z) else none
 | some (.exc c) => some (.exc c)
 | none => none
section
variable {X : Cx} {a b : Expr} {pos : Pos} {f g : DE} {RX : XR}
theorem pf_rep (ha : PD X a f) (hb : PD X b g) : PF X (.BinOp a .Mult b pos) (dRep f g) := (pe_op op_rep ha hb).imp fun σ H Q ⟨B, δ, ds, hB, S, q, k⟩ => by
 unfold dRep at q
 cases e1 : f δ with
 | none => rw [e1] at q; cases q
 | some x =>
 rw [e1, Option.bind_some] at q
 cases e2 : g δ with
 | none => rw [e2] at q; cases q
 | some y =>
 rw [e2, Option.bind_some] at q
 unfold repLs at q
 split at q
 case h_2 => cases q
 case h_1 xs n =>
 split at q
 case isFalse => cases q
 case isTrue hl =>
 cases q
 refine ⟨B, δ, _, hB, S, e1, fun v H1 s1 r1 => ⟨B, δ, _, hB.mono s1, S.mono s1, e2, fun v2 H2 s2 r2 => ?_⟩⟩
 unfold Rep at r2
 subst r2
 unfold Rep at r1
 obtain ⟨p1, vs, rfl, n1, h1, rs1⟩ := r1
 refine ⟨p1, n, vs, rfl, rfl, s2 _ _ h1, by omega, by omega, by rw [← rs1.length]; exact hl.2, fun p hp => ?_⟩
 exact k p _ _ ((s1.trans s2).trans (same_upd hp)) ((s1.trans s2).free hp) upd_same (((rs1.mono s2).rep _).mono (same_upd hp))
end
end L2
namespace PySem
open Sem (wp)
section
variable {K : Type} [DecidableEq K] {prog : Program} {w : World} {knd : KeyKind prog w K} {A : Around} {E : Value → Shared → Prop} {s : Shared}
end
end PySem
namespace L2
open PySem PySem.Spec PyProof.Rows
section
variable {prog : Program} {w : World} {A : Around} {E : Value → Shared → Prop} {s : Shared}
end
section
variable {X : Cx}
variable {e : Expr} {f : DE} {p pos : Pos}
end
end L2
namespace L2
open PySem PySem.Spec PyProof.Rows
section
variable {X : Cx} {ke ve : Expr} {pos : Pos} {f g : DE}
end
section
variable {X : Cx} {tg : Expr}
end
section
variable {X : Cx} {a b : Expr} {pos : Pos} {f g : DE}
end
end L2
namespace L2
open PySem PySem.Spec PyProof.Rows
def twoD : D → Option (D × D)
 | .tup [a, b] => some (a, b)
 | _ => none
theorem twoD_some {d : D} {z : D × D} (h : twoD d = some z) : d = .tup [z.1, z.2] := by
 unfold twoD at h
 split at h
 ·cases h; rfl
 ·cases h
def forD2 (i j : Nat) (b : SS → Option Out) : List D → SS → Option Out
 | [], δ => some (.nx δ)
 | d :: r, δ => (twoD d).bind fun z => (b ((δ.set i (some (.sh z.1))).set j (some (.sh z.2)))).bind fun o => match o with
  | .nx δ' => forD2 i j b r δ'
  | .ct δ' => forD2 i j b r δ'
  | .bk δ' => some (.nx δ')
  | .rt d => some (.rt d)
  | .ex c δ' => some (.ex c δ')
def forO2 (i j : Nat) (f : DS → Option (List D)) (g : SS → Option Out) : SS → Option Out := fun δ => (f (shV δ)).bind fun ds => forD2 i j g ds δ
section
variable {X : Cx} {H0 : Hp} {B0 : Addr → Prop} {fr : Bool} {RX : XR} {pos : Pos}
def gPair (K : PySem.W.Frag) (i j : Nat) : TG := gTup K 2 (gCons (gName i) (gCons (gName j) gNil))
theorem s_for2 {i j : Nat} {tg : Expr} {iter : Expr} {body : List Stmt} {f : DS → Option (List D)} {g : SS → Option Out} (hp : PassesOwn (model X.prog X.w) X.A X.env X.xe) (hc : X.calm = true) (hi : PID X tg iter f) (hg : PG X tg (gPair X.K i j)) (hb : PSs X body (tS X.K H0 B0 fr RX g))
  (hs : ∀ x, foldedSetIterable iter X.env x = pure x := by intro _; rfl) : PS X (.For tg iter body [] pos) (tS X.K H0 B0 fr RX (forO2 i j f g)) := PS.imp (ps_for hp hc hi hg hb hs) fun D σ H ⟨δ, R, o, rs, q, k⟩ => by
 unfold forO2 at q
 cases e : f (shV δ) with
 | none => rw [e] at q; cases q
 | some ds =>
 rw [e] at q
 have q : forD2 i j g ds δ = some o := q
 refine ⟨_, shV δ, ds, rs.inAll, rs.shr, e, fun J H1 s1 itw => ?_⟩
 have rs1 := rs.mono s1
 have it := itw (fun a => H1 a = none) fun a z => z
 refine ⟨fun n m σ' H' => m = ds.length - n ∧ n ≤ ds.length ∧ ∃ δ' R', RS X.K H0 B0 H' σ' δ' R' ∧ Stp R H1 R' H' ∧ forD2 i j g (ds.drop n) δ' = some o, ⟨ds.length, by simp, Nat.zero_le _, δ, R, rs1, .refl R H1, q⟩, ?_⟩
 rintro n m σ' H' ⟨rfl, hn, δ', R', rs', s', q'⟩
 have kp : Keep X.K (fun a => (B0 a ∨ ∃ r, a ∈ R r) ∨ H1 a = none) H1 H' := s'.keepB (fun r a z => .inl (.inr ⟨r, z⟩)) rs1.held
 by_cases hlt : n < ds.length
 ·have hx : ds.drop n = ds[n] :: ds.drop (n + 1) := List.drop_eq_getElem_cons hlt
  rw [hx] at q'
  unfold forD2 at q'
  cases et : twoD ds[n] with
  | none => rw [et] at q'; cases q'
  | some z =>
  rw [et, Option.bind_some] at q'
  cases eb : g ((δ'.set i (some (.sh z.1))).set j (some (.sh z.2))) with
  | none => rw [eb] at q'; cases q'
  | some ob =>
   rw [eb] at q'
   refine .inr ⟨it.go n H' kp hlt, fun σ2 H2 => n + 1 ≤ ds.length ∧ ∃ δ2 R2, RS X.K H0 B0 H2 σ2 δ2 R2 ∧ Stp R H1 R2 H2 ∧ forD2 i j g (ds.drop (n + 1)) δ2 = some o, fun σ2 H2 z => ⟨ds.length - (n + 1), by omega, rfl, z⟩, fun xv H2 hy => ?_⟩
   obtain ⟨s2, d, hd, rd⟩ := it.yld n H' xv H2 kp hy
   have hdi : d = ds[n] := by
    have := hd hlt
    rw [List.getElem?_eq_getElem hlt] at this
    exact (Option.some.inj this).symm
   subst hdi
   have rd' : Rep X.K H2 (fun a => B0 a ∨ ∃ r, a ∈ R' r) ds[n] xv := rd.anti fun a z => by
    rcases z with z | ⟨r, z⟩
    ·exact .inl (.inl z)
    ·rcases s'.from' r a z with z | z
     ·exact .inl (.inr z)
     ·exact .inr z
   rw [twoD_some et] at rd'
   unfold Rep at rd'
   obtain ⟨p, vs, rfl, hsq, rvs⟩ := rd'
   unfold Reps at rvs
   obtain ⟨va, r1, rfl, ra, rvs⟩ := rvs
   unfold Reps at rvs
   obtain ⟨vb, r2, rfl, rb, rvs⟩ := rvs
   unfold Reps at rvs
   subst rvs
   refine ⟨p, [va, vb], rfl, hsq, rfl, va, [vb], rfl, vb, [], rfl, rfl, ?_⟩
   have rs2 := ((rs'.mono s2).setSh (i := i) ra).setSh (i := j) rb
   have st2 : Stp R H1 R' H2 := s'.trans (.same s2)
   refine ⟨_, R', ob, rs2, eb, ?_⟩
   cases ob with
   | nx δ2 =>
    have q2 : forD2 i j g (ds.drop (n + 1)) δ2 = some o := q'
    exact fun σ3 H3 R3 rs3 s3 => ⟨hlt, δ2, R3, rs3, st2.trans s3, q2⟩
   | ct δ2 =>
    have q2 : forD2 i j g (ds.drop (n + 1)) δ2 = some o := q'
    exact fun σ3 H3 R3 rs3 s3 => ⟨hlt, δ2, R3, rs3, st2.trans s3, q2⟩
   | bk δ2 =>
    cases q'
    exact fun σ3 H3 R3 rs3 s3 => k σ3 H3 R3 rs3 ((Stp.same s1).trans (st2.trans s3))
   | rt d =>
    cases q'
    exact k.back ((Stp.same s1).trans st2)
   | ex c δ2 =>
    cases q'
    exact k.back ((Stp.same s1).trans st2)
 ·have en : n = ds.length := by omega
  subst en
  rw [List.drop_length] at q'
  cases q'
  exact .inl ⟨it.stop _ H' kp (Nat.le_refl _), k σ' H' R' rs' ((Stp.same s1).trans s')⟩
theorem pg_pair {i j : Nat} {x y : Str} {px py tp : Pos} {x1} (hc : X.calm = true) (h1 : PG X (.Name x px) (gName i)) (h2 : PG X (.Name y py) (gName j))
  (hs : (assignEach [.Name x px, .Name y py] X.env).map (·.2) = assign (.Name x px) X.env :: (assignEach [.Name y py] X.env).map (·.2) := by rfl) (hs2 : (assignEach [.Name y py] X.env).map (·.2) = assign (.Name y py) X.env :: (assignEach [] X.env).map (·.2) := by rfl)
  (hn : (assignEach [.Name x px, .Name y py] X.env).length = 2 := by rfl) (hst : (assignEach [.Name x px, .Name y py] X.env).findIdx? (·.1) = none := by rfl) : PG X (.Tuple [.Name x px, .Name y py] x1 tp) (gPair X.K i j) :=
 pg_tup hc (pgs_cons h1 (pgs_cons h2 pgs_nil hs2) hs) hn hst
end
end L2
namespace L2
open PySem PySem.Spec PyProof.Rows
section
variable {X : Cx}
variable {e : Expr} {f : DE} {p pos : Pos}
end
end L2
namespace L2
open PySem PySem.Spec PyProof.Rows
section
variable {X : Cx} {e lo st : Expr} {te : TE} {tl tk : TO} {pos p2 : Pos}
variable {f g h : DE}
end
end L2
namespace L2
open PySem PySem.Spec PyProof.Rows
def bigL : Nat := 2 ^ 250
def CMulB (i j : Int) : Prop := i.natAbs < bigL ∧ j.natAbs < bigL
instance {i j : Int} : Decidable (CMulB i j) := by unfold CMulB; infer_instance
section
variable {X : Cx} {a b : Expr} {pos : Pos} {f g : DE}
end
end L2
namespace L2
open PySem PySem.Spec PyProof.Rows
section
variable {X : Cx} {tg iter a b : Expr} {p pos pos' : Pos}
structure ItF (J : It) (lo : Int) (n : Nat) : Prop where
 go : ∀ i H', i < n → J.go i H'
 stop : ∀ i H', n ≤ i → J.stop i H'
 yld : ∀ i H' x H2, J.yld i H' x H2 → Same H' H2 ∧ x = .int (lo + (i : Int))
theorem itf_rng {lo : Int} {n : Nat} : ItF (Itr lo n) lo n := ⟨fun i H' hi => hi, fun i H' hi => hi, fun i H' x H2 y => by
 obtain ⟨e, y⟩ := y
 subst e y
 exact ⟨.refl _, rfl⟩⟩
def tIF (K : PySem.W.Frag) (f : DS → Option (Int × Nat)) : TI := fun σ H R => ∃ B δ z, InB B H ∧ RepS K H B σ δ ∧ f δ = some z ∧ ∀ J H', Same H H' → ItF J z.1 z.2 → R J H'
abbrev PIF (X : Cx) (tg iter : Expr) (f : DS → Option (Int × Nat)) : Prop := PI X tg iter (tIF X.K f)
def dIv1 (f : DE) : DS → Option (Int × Nat) := fun δ => match f δ with
 | some (.int j) => if -(2 ^ 62) ≤ j ∧ j < 2 ^ 62 then some (0, j.toNat) else none
 | _ => none
theorem pif_rng1 {f : DE} (hg : Gl X "range") (hm : X.mg "range" = none) (ha : PD X a f) (hs : starEach [a] X.env = [(false, eval a X.env)] := by rfl) : PIF X tg (.Call (.Name "range" p) [a] [] pos) (dIv1 f) :=
 (pi_range1 hg hm (pad_cons ha pad_nil hs) hs).imp fun σ H R ⟨B, δ, ds, hB, S, q, k⟩ => by
  unfold dIv1 at q
  split at q
  ·rename_i j e
   split at q
   ·rename_i hj
    cases q
    have ea : dArgs [f] δ = some [.int j] := by unfold dArgs; rw [e]; rfl
    refine ⟨B, δ, [.int j], hB, S, ea, fun vs H1 s1 r1 => ?_⟩
    unfold Reps at r1
    obtain ⟨x, r, rfl, rx, rr⟩ := r1
    unfold Reps at rr
    subst rr
    exact ⟨j, by rw [show x = V.int j from rx], hj.1, hj.2, k _ H1 s1 itf_rng⟩
   ·cases q
  ·cases q
def forI (i : Nat) (f : DS → Option (Int × Nat)) (b : SS → Option Out) : SS → Option Out := fun δ => (f (allV δ)).bind fun z => forD i b (rngL z.1 z.2) δ
variable {H0 : Hp} {B0 : Addr → Prop} {fr : Bool} {RX : XR}
theorem s_forI {i : Nat} {x : Str} {px : Pos} {body : List Stmt} {f : DS → Option (Int × Nat)} {g : SS → Option Out} (hp : PassesOwn (model X.prog X.w) X.A X.env X.xe) (hc : X.calm = true) (hi : PIF X (.Name x px) iter f) (hg : PG X (.Name x px) (gName i)) (hb : PSs X body (tS X.K H0 B0 fr RX g))
  (hs : ∀ x, foldedSetIterable iter X.env x = pure x := by intro _; rfl) : PS X (.For (.Name x px) iter body [] pos) (tS X.K H0 B0 fr RX (forI i f g)) := PS.imp (ps_for hp hc hi hg hb hs) fun D σ H ⟨δ, R, o, rs, q, k⟩ => by
 unfold forI at q
 cases e : f (allV δ) with
 | none => rw [e] at q; cases q
 | some z =>
 rw [e] at q
 obtain ⟨ds, hds⟩ : ∃ ds, ds = rngL z.1 z.2 := ⟨_, rfl⟩
 have hlen : ds.length = z.2 := by rw [hds, rngL_length]
 have q : forD i g ds δ = some o := by rw [hds]; exact q
 refine ⟨noB, allV δ, z, .no, rs.all, e, fun J H1 s1 it => ?_⟩
 have rs1 := rs.mono s1
 refine ⟨fun n m σ' H' => m = ds.length - n ∧ n ≤ ds.length ∧ ∃ δ' R', RS X.K H0 B0 H' σ' δ' R' ∧ Stp R H1 R' H' ∧ forD i g (ds.drop n) δ' = some o, ⟨ds.length, by simp, Nat.zero_le _, δ, R, rs1, .refl R H1, q⟩, ?_⟩
 rintro n m σ' H' ⟨rfl, hn, δ', R', rs', s', q'⟩
 by_cases hlt : n < ds.length
 ·have hx : ds.drop n = ds[n] :: ds.drop (n + 1) := List.drop_eq_getElem_cons hlt
  rw [hx] at q'
  unfold forD at q'
  cases eb : g (δ'.set i (some (.sh ds[n]))) with
  | none => rw [eb] at q'; cases q'
  | some ob =>
   rw [eb] at q'
   refine .inr ⟨it.go n H' (by omega), fun σ2 H2 => n + 1 ≤ ds.length ∧ ∃ δ2 R2, RS X.K H0 B0 H2 σ2 δ2 R2 ∧ Stp R H1 R2 H2 ∧ forD i g (ds.drop (n + 1)) δ2 = some o, fun σ2 H2 z => ⟨ds.length - (n + 1), by omega, rfl, z⟩, fun xv H2 hy => ?_⟩
   obtain ⟨s2, hd⟩ := it.yld n H' xv H2 hy
   have hdi : ds[n] = .int (z.1 + (n : Int)) := by
    have h1 : ds[n]? = some (.int (z.1 + (n : Int))) := by rw [hds]; exact rngL_get (by omega)
    rw [List.getElem?_eq_getElem hlt] at h1
    exact Option.some.inj h1
   have rd' : Rep X.K H2 (fun a => B0 a ∨ ∃ r, a ∈ R' r) ds[n] xv := by
    rw [hdi]
    exact hd
   have rs2 := (rs'.mono s2).setSh (i := i) rd'
   have st2 : Stp R H1 R' H2 := s'.trans (.same s2)
   refine ⟨_, R', ob, rs2, eb, ?_⟩
   cases ob with
   | nx δ2 =>
    have q2 : forD i g (ds.drop (n + 1)) δ2 = some o := q'
    exact fun σ3 H3 R3 rs3 s3 => ⟨hlt, δ2, R3, rs3, st2.trans s3, q2⟩
   | ct δ2 =>
    have q2 : forD i g (ds.drop (n + 1)) δ2 = some o := q'
    exact fun σ3 H3 R3 rs3 s3 => ⟨hlt, δ2, R3, rs3, st2.trans s3, q2⟩
   | bk δ2 =>
    cases q'
    exact fun σ3 H3 R3 rs3 s3 => k σ3 H3 R3 rs3 ((Stp.same s1).trans (st2.trans s3))
   | rt d =>
    cases q'
    exact k.back ((Stp.same s1).trans st2)
   | ex c δ2 =>
    cases q'
    exact k.back ((Stp.same s1).trans st2)
 ·have en : n = ds.length := by omega
  subst en
  rw [List.drop_length] at q'
  cases q'
  exact .inl ⟨it.stop _ H' (by omega), k σ' H' R' rs' ((Stp.same s1).trans s')⟩
def ret3 (i j l : Nat) : SS → Option Out := fun δ => match ownV δ i, ownV δ j, ownV δ l with
 | some d, some e, some f => some (.rt (.lst [d, e, f]))
 | _, _, _ => none
variable {c : Expr}
theorem s_ret3 {i j l : Nat} (hij : i ≠ j) (hil : i ≠ l) (hjl : j ≠ l) (ha : PE X a (tVar i)) (hb : PE X b (tVar j)) (hc : PE X c (tVar l)) (hs : starEach [a, b, c] X.env = (false, eval a X.env) :: starEach [b, c] X.env := by rfl) (hs2 : starEach [b, c] X.env = (false, eval b X.env) :: starEach [c] X.env := by rfl) (hs3 : starEach [c] X.env = (false, eval c X.env) :: starEach [] X.env := by rfl) :
  PS X (.Return (some (.List [a, b, c] pos')) pos) (tS X.K H0 B0 true RX (ret3 i j l)) := PS.imp (ps_ret (pe_lst (pa_cons ha (pa_cons hb (pa_cons hc pa_nil hs3) hs2) hs))) fun D σ H ⟨δ, R, o, rs, q, k⟩ => by
 unfold ret3 at q
 split at q
 ·rename_i d e f h1 h2 h3
  cases q
  obtain ⟨v, A, e1, t1, n1, m1⟩ := own_tree rs h1
  obtain ⟨w, C, e2, t2, n2, m2⟩ := own_tree rs h2
  obtain ⟨u, G, e3, t3, n3, m3⟩ := own_tree rs h3
  refine ⟨v, e1, w, e2, u, e3, by show 3 ≤ sizeLine; rw [sizeLine_eq]; omega, fun p hp => ?_⟩
  have sp := same_upd (o := .lst [v, w, u]) hp
  have hold : ∀ x, x ∈ A ++ (C ++ G) → H x ≠ none := fun x hx z => by
   rcases List.mem_append.mp hx with y | y
   ·obtain ⟨o, q, _⟩ := t1.held _ x y
    rw [z] at q; cases q
   rcases List.mem_append.mp y with y | y
   ·obtain ⟨o, q, _⟩ := t2.held _ x y
    rw [z] at q; cases q
   ·obtain ⟨o, q, _⟩ := t3.held _ x y
    rw [z] at q; cases q
  have nd : (A ++ (C ++ G)).Nodup := by
   refine List.nodup_append.mpr ⟨n1, List.nodup_append.mpr ⟨n2, n3, fun x hx y hy z => ?_⟩, fun x hx y hy z => ?_⟩
   ·subst z
    exact hjl (rs.disj j l x (m2 x hx) (m3 x hy))
   ·subst z
    rcases List.mem_append.mp hy with y | y
    ·exact hij (rs.disj i j x (m1 x hx) (m2 x y))
    ·exact hil (rs.disj i l x (m1 x hx) (m3 x y))
  refine k (.ref p) _ ⟨rs.keep.trans sp, fun _ => ⟨p :: (A ++ (C ++ G)), ?_, List.nodup_cons.mpr ⟨fun z => hold p z hp, nd⟩, fun x hx => ?_⟩, fun z => by cases z⟩ fun x z => sp.free z
  ·unfold Tree
   refine ⟨p, [v, w, u], A ++ (C ++ G), rfl, upd_same, ?_, rfl⟩
   unfold Trees
   refine ⟨v, [w, u], A, C ++ G, rfl, t1.mono sp, ?_, rfl⟩
   unfold Trees
   refine ⟨w, [u], C, G, rfl, t2.mono sp, ?_, rfl⟩
   unfold Trees
   exact ⟨u, [], G, [], rfl, t3.mono sp, ⟨rfl, rfl⟩, by simp⟩
  ·rcases List.mem_cons.mp hx with z | z
   ·rw [z]; exact rs.keep.free hp
   ·rcases List.mem_append.mp z with z | z
    ·exact rs.new i x (m1 x z)
    rcases List.mem_append.mp z with z | z
    ·exact rs.new j x (m2 x z)
    ·exact rs.new l x (m3 x z)
 ·cases q
end
end L2
namespace L2
open PySem PySem.Spec PyProof.Rows
theorem Trees.cat {K : PySem.W.Frag} {H : Hp} : ∀ {ds es : List D} {vs ws : List V} {A C : List Addr}, Trees K H ds vs A → Trees K H es ws C → Trees K H (ds ++ es) (vs ++ ws) (A ++ C)
 | [], es, vs, ws, A, C, h, h' => by
  unfold Trees at h
  rw [h.1, h.2]
  exact h'
 | d :: ds, es, vs, ws, A, C, h, h' => by
  unfold Trees at h
  obtain ⟨x, r, A1, A2, rfl, t1, t2, rfl⟩ := h
  have ih := Trees.cat t2 h'
  show Trees K H (d :: (ds ++ es)) (x :: (r ++ ws)) ((A1 ++ A2) ++ C)
  unfold Trees
  exact ⟨x, r ++ ws, A1, A2 ++ C, rfl, t1, ih, by rw [List.append_assoc]⟩
section
variable {X : Cx} {a b : Expr} {pos : Pos} {f g : DE}
theorem pn_cat (ha : PN X a f) (hb : PN X b g) : PN X (.BinOp a .Add b pos) (mkL (dCat f g)) := (pe_op op_cat ha hb).imp fun σ H Q ⟨δ, d, S, q, k⟩ => by
 unfold mkL dCat at q
 cases e1 : f δ with
 | none => rw [e1] at q; cases q
 | some x =>
 rw [e1, Option.bind_some] at q
 cases e2 : g δ with
 | none => rw [e2] at q; cases q
 | some y =>
 rw [e2, Option.bind_some] at q
 unfold catLs at q
 split at q
 case h_2 => cases q
 case h_1 xs ys =>
 split at q
 case isFalse => cases q
 case isTrue hl =>
 cases q
 refine ⟨δ, _, S, e1, fun v H1 A s1 t1 nd1 f1 => ⟨δ, _, S.mono s1, e2, fun v2 H2 C s2 t2 nd2 f2 => ?_⟩⟩
 have t1' := t1.mono s2
 have hd1 := fun z hz => t1'.held _ z hz
 unfold Tree at t1' t2
 obtain ⟨p1, vs, A1, rfl, h1, r1, rfl⟩ := t1'
 obtain ⟨p2, ws, C1, rfl, h2, r2, rfl⟩ := t2
 refine ⟨p1, p2, vs, ws, rfl, rfl, h1, h2, by rw [← r1.len, ← r2.len]; exact hl, fun p hp => ?_⟩
 have sp := same_upd (o := .lst (vs ++ ws)) hp
 refine k (.ref p) _ (p :: (A1 ++ C1)) ((s1.trans s2).trans sp) ?_ (List.nodup_cons.mpr ⟨fun z => ?_, List.nodup_append.mpr ⟨(List.nodup_cons.mp nd1).2, (List.nodup_cons.mp nd2).2, fun x hx y hy z => ?_⟩⟩) fun x hx => ?_
 ·unfold Tree
  exact ⟨p, _, _, rfl, upd_same, (r1.cat r2).mono sp, rfl⟩
 ·rcases List.mem_append.mp z with z | z
  ·obtain ⟨o, q', _⟩ := Trees.held _ r1 p z
   rw [hp] at q'; cases q'
  ·obtain ⟨o, q', _⟩ := Trees.held _ r2 p z
   rw [hp] at q'; cases q'
 ·subst z
  obtain ⟨o, q', _⟩ := t1.held _ x (List.mem_cons_of_mem _ hx)
  rw [f2 x (List.mem_cons_of_mem _ hy)] at q'; cases q'
 ·rcases List.mem_cons.mp hx with z | z
  ·rw [z]; exact (s1.trans s2).free hp
  ·rcases List.mem_append.mp z with z | z
   ·exact f1 x (List.mem_cons_of_mem _ z)
   ·exact s1.free (f2 x (List.mem_cons_of_mem _ z))
end
end L2
namespace HT
open PySem PySem.Spec PyProof.Rows
section
variable {prog : Program} {w : World} {A : Around} {E : Value → Shared → Prop} {s : Shared}
end
end HT
namespace L2
open PySem PySem.Spec PyProof.Rows
section
variable {X : Cx} {e a b : Expr} {lo hi : Option Expr} {p p2 pos : Pos}
variable {f : DE}
end
end L2
namespace PySem
namespace SetTable
def Up (xs : Array Nat) : Prop := xs.toList.Pairwise (· < ·)
end SetTable
def TI (t : SetTable) : Prop := t.led = true ∧ (t.plain = true → SetTable.Up t.place)
end PySem
namespace PySem
section
variable {prog : Program} {w : World} {K : Type} [DecidableEq K] (knd : KeyKind prog w K)
variable {knd} {A : Around} {E : Value → Shared → Prop} {s : Shared}
end
section
variable {prog : Program} {w : World} {A : Around} {R : Result → Shared → Prop} {I : Addr} {fp wr : List Addr} {G : Array GenState → Array GenState → Prop} {n : Nat} {P : Nat → Value → Prop} {St : Nat → Shared → Prop}
open PyProof.Rows in
end
end PySem
namespace PySem
section
variable {prog : Program} {w : World} {A : Around} {E : Value → Shared → Prop} {s : Shared}
open PyProof.Rows in
set_option maxHeartbeats 3200000 in
open PyProof.Rows in
end
end PySem
namespace PySem
section
variable {M : Model} {A : Around} {E : Value → Shared → Prop} {s : Shared}
end
section
variable {prog : Program} {w : World} {A : Around} {E : Value → Shared → Prop} {s : Shared}
end
end PySem
namespace PySem
section
variable {prog : Program} {w : World} {A : Around} {E : Value → Shared → Prop} {s : Shared}
end
end PySem
namespace PySem
section
variable {prog : Program} {w : World} {A : Around} {E : Value → Shared → Prop} {s : Shared}
end
end PySem
namespace PySem
open Sem (wp)
section
variable {K : Type} [DecidableEq K] {prog : Program} {w : World} {knd : KeyKind prog w K} {A : Around} {E : Value → Shared → Prop} {s : Shared}
end
end PySem
namespace L2
open PySem PySem.Spec PyProof.Rows
section
variable {prog : Program} {w : World} {A : Around} {E : Value → Shared → Prop} {s : Shared}
end
section
variable {X : Cx} {e : Expr} {te : TE} {p p' pos pos' : Pos}
variable {f : DE}
end
end L2
namespace L2
open PySem PySem.Spec PyProof.Rows
section
variable {X : Cx} {a b : Expr} {pos : Pos} {f g : DE}
def rCatL (K : PySem.W.Frag) : R2 := fun x y H Q => ∃ l b xs zs, x = .ref l ∧ y = .ref b ∧ SqL K H l xs ∧ SqL K H b zs ∧ xs.length + zs.length ≤ sizeLine ∧ ∀ p, H p = none → Q (.ref p) (upd H p (.lst (xs ++ zs)))
theorem op_catL : OpR X (binaryOp .Add) (rCatL X.K) := by
 intro pins s σ H x y v u Q I rx ry h
 obtain ⟨l, b, xs, zs, rfl, rfl, hH, hB, hz, q⟩ := h
 cases rx
 cases ry
 obtain ⟨its, r, ⟨o1, n1, e1, c1, d1, g1⟩, z1⟩ := I.list hH
 obtain ⟨its2, r2, ⟨o2, n2, e2, c2, d2, g2⟩, z2⟩ := I.list hB
 have hl := r.length
 have hl2 := r2.length
 obtain ⟨cls, dd, data, sl⟩ := o1
 obtain ⟨cls2, dd2, data2, sl2⟩ := o2
 simp only at c1 d1 g1 c2 d2 g2
 subst c1 d1 g1 c2 d2 g2
 refine concat_meets ⟨_, e1, rfl⟩ ⟨_, e2, rfl⟩ noFill_list_add seq_list_add PySem.F.slot_list_add PySem.F.entry_list_add (PySem.F.args_list_add_2 _ _) (list_addW l b its.toArray its2.toArray n1 n2 none none sl sl2 (by rw [List.size_toArray, List.size_toArray]; omega)) ⟨e1, e2, ?_⟩
 have ea : its.toArray ++ its2.toArray = (its ++ its2).toArray := by simp
 rw [ea]
 exact ⟨.ref _, _, I.lnew (t' := s.toks) (r.append r2) (by rw [List.length_append]; omega), rfl, q _ I.fresh⟩
def seqL : D → Option (List D)
 | .lst ds => some ds
 | .scr ns => some (ns.map .int)
 | _ => none
def catSs : D → D → Option (List D) := fun x y => (seqL x).bind fun ds => (seqL y).bind fun es => if ds.length + es.length ≤ sizeLine then some (ds ++ es) else none
def dCatS (f g : DE) : DS → Option (List D) := fun δ => (f δ).bind fun x => (g δ).bind fun y => catSs x y
theorem seqL_rep {K : PySem.W.Frag} {H : Hp} {B : Addr → Prop} {d : D} {ds : List D} {v : V} (h : Rep K H B d v) (e : seqL d = some ds) : ∃ p vs, v = .ref p ∧ (∀ H', Same H H' → SqL K H' p vs) ∧ Reps K H B ds vs := by
 unfold seqL at e
 split at e
 ·cases e
  unfold Rep at h
  obtain ⟨p, vs, rfl, _, hq, rs⟩ := h
  exact ⟨p, vs, rfl, fun H' s => SqL.of (s _ _ hq), rs⟩
 ·cases e
  unfold Rep at h
  obtain ⟨p, rfl, hq⟩ := h
  exact ⟨p, _, rfl, fun H' s => (s.sf hq).sq, reps_ints _⟩
 ·cases e
theorem pf_catS (ha : PD X a f) (hb : PD X b g) : PF X (.BinOp a .Add b pos) (dCatS f g) := (pe_op op_catL ha hb).imp fun σ H Q ⟨B, δ, ds, hB, S, q, k⟩ => by
 unfold dCatS at q
 cases e1 : f δ with
 | none => rw [e1] at q; cases q
 | some x =>
 rw [e1, Option.bind_some] at q
 cases e2 : g δ with
 | none => rw [e2] at q; cases q
 | some y =>
 rw [e2, Option.bind_some] at q
 unfold catSs at q
 cases e3 : seqL x with
 | none => rw [e3] at q; cases q
 | some xs =>
 rw [e3, Option.bind_some] at q
 cases e4 : seqL y with
 | none => rw [e4] at q; cases q
 | some ys =>
 rw [e4, Option.bind_some] at q
 split at q
 case isFalse => cases q
 case isTrue hl =>
 cases q
 refine ⟨B, δ, _, hB, S, e1, fun v H1 s1 r1 => ⟨B, δ, _, hB.mono s1, S.mono s1, e2, fun v2 H2 s2 r2 => ?_⟩⟩
 obtain ⟨p1, vs, rfl, h1, rs1⟩ := seqL_rep r1 e3
 obtain ⟨p2, ws, rfl, h2, rs2⟩ := seqL_rep r2 e4
 refine ⟨p1, p2, vs, ws, rfl, rfl, h1 _ s2, h2 _ (.refl _), by rw [← rs1.length, ← rs2.length]; exact hl, fun p hp => ?_⟩
 exact k p _ _ ((s1.trans s2).trans (same_upd hp)) ((s1.trans s2).free hp) upd_same (((rs1.mono s2).append rs2).mono (same_upd hp))
end
end L2
namespace L2
open PySem PySem.Spec PyProof.Rows
section
variable {X : Cx} {e : Expr} {p p2 pos : Pos}
end
end L2
namespace L2
open PySem PySem.Spec PyProof.Rows
section
variable {X : Cx} {e : Expr} {te : TE} {p p' pos pos' : Pos}
variable {f : DE}
end
end L2
namespace L2
open PySem PySem.Spec PyProof.Rows
section
variable {X : Cx} {a b : Expr} {pos : Pos} {f g : DE}
end
end L2
namespace L2
open PySem PySem.Spec PyProof.Rows
section
variable {X : Cx} {c : Expr} {a b : List Stmt} {p2 pos : Pos} {H0 : Hp} {B0 : Addr → Prop} {fr : Bool} {RX : XR} {F : DS → Option XO} {g h : SS → Option Out}
end
end L2
namespace L2
open PySem PySem.Spec PyProof.Rows
section
variable {X : Cx} {x : Str} {C : Addr} {np cpos : Pos} {e₀ : Expr} {te : TE} {f : DE}
end
end L2
namespace L2
open PySem PySem.Spec PyProof.Rows
section
variable {X : Cx} {pos : Pos} {H0 : Hp} {B0 : Addr → Prop} {fr : Bool} {RX : XR} {F : DS → Option XO}
end
end L2
namespace L2
open PySem PySem.Spec PyProof.Rows
section
variable {P : Program} {w : World} {K : PySem.W.Frag} {mg : Str → Option Value} {base : Heap}
end
section
variable {X : Cx} {k : Nat} {x : Str} {p pos : Pos} {e e' : Expr} {es : List Expr}
variable {H0 : Hp} {B0 : Addr → Prop} {RX : XR} {a : Expr} {pos' : Pos}
end
end L2
namespace L2
open PySem PySem.Spec PyProof.Rows
section
variable {K : PySem.W.Frag} {H0 H : Hp} {B0 : Addr → Prop} {σ : St} {δ : SS} {R : Nat → List Addr}
end
section
variable {X : Cx} {H0 : Hp} {B0 : Addr → Prop} {fr : Bool} {RX : XR} {e : Expr} {pos ap cp : Pos} {x : Str} {px : Pos}
end
section
variable {X : Cx} {pos : Pos}
variable {H0 : Hp} {B0 : Addr → Prop} {fr : Bool} {RX : XR}
@[irreducible] def PSb (X : Cx) (st : Stmt) (t : TS) : Prop := PS X st t
@[irreducible] def PSsb (X : Cx) (st : List Stmt) (t : TS) : Prop := PSs X st t
end
section
variable {P : Program} {w : World} {K : PySem.W.Frag} {mg : Str → Option Value} {base : Heap}
end
end L2
namespace L2
open PySem PySem.Spec PyProof.Rows
section
variable {X : Cx} {H0 : Hp} {B0 : Addr → Prop} {fr : Bool} {RX : XR} {x : Str} {px p2 ap cp pos : Pos} {ke : Expr} {fk : DE}
end
end L2
namespace L2
open PySem PySem.Spec PyProof.Rows
section
variable {X : Cx} {H0 : Hp} {B0 : Addr → Prop} {fr : Bool} {RX : XR} {e : Expr} {f : DE} {pos ap cp : Pos} {x : Str} {px : Pos}
def ext0D (i : Nat) (f : DE) : SS → Option Out := fun δ => (f (allV δ)).bind fun d => (match d, δ[i]? with
 | .lst es, some (some (.ow (.lst ds))) => if imms es = true ∧ ds.length + es.length ≤ sizeLine then some (.nx ((dropBs i δ).set i (some (.ow (.lst (ds ++ es)))))) else none
 | _, _ => none)
theorem s_extendD {i : Nat} (hx : PE X (.Name x px) (tVar i)) (he : PD X e f) (hbase : attributeBase (.Name x px) "extend" X.env (eval (.Name x px) X.env) = eval (.Name x px) X.env := by rfl)
  (hfew : ((backTo cp (starEach [e] X.env)).all (fun x => !x.1) && (backToKw cp (keywordEach [] X.env)).all (fun x => x.1.isSome) && decide ([e].length + ([] : List Keyword).length + (if ([] : List Keyword).isEmpty then 0 else 1) < 30)) = true := by rfl)
  (hline : (ap.endLine == cp.line) = true := by rfl) (hs : starEach [e] X.env = (false, eval e X.env) :: starEach [] X.env := by rfl) (hsw : swapsWith (.Call (.Attribute (.Name x px) "extend" ap) [e] [] cp) none pos.line X.env = pure false := by rfl) :
  PS X (.Expr (.Call (.Attribute (.Name x px) "extend" ap) [e] [] cp) pos) (tS X.K H0 B0 fr RX (ext0D i f)) :=
 PS.imp (ps_expr (pe_bm PySem.F.plainAttrs_list PySem.F.slot_list_extend PySem.F.type_list_extend mt_extend hx (pa_cons he pa_nil hs) hbase hfew hline hs rfl) hsw) fun D σ H ⟨δ, R, o, rs, q, k⟩ => by
  unfold ext0D at q
  cases e1 : f (allV δ) with
  | none => rw [e1] at q; cases q
  | some d =>
  rw [e1, Option.bind_some] at q
  split at q
  case h_2 => cases q
  case h_1 es ds ei =>
  split at q
  case isFalse => cases q
  case isTrue hl =>
  cases q
  obtain ⟨a, xs, A, ev, ha, ts, eR, nd⟩ := rs.top ei
  refine ⟨.ref a, ev, .inl ⟨rfl, xs, SqL.of ha⟩, noB, allV δ, _, .no, rs.all, e1, fun y H2 s2 r2 => ?_⟩
  unfold Rep at r2
  obtain ⟨b, zs, rfl, _, hb, rz⟩ := r2
  refine ⟨a, b, xs, zs, rfl, rfl, s2 _ _ ha, hb, by rw [← ts.length, ← rz.length]; exact hl.2, ?_⟩
  have tz := rz.immTree es hl.1
  have P := rs.put0 s2 ei ev eR nd ((ts.mono s2).append tz) (by rw [List.append_nil]; exact (List.nodup_cons.mp nd).2) fun p hp => .inl (by rw [List.append_nil] at hp; exact hp)
  exact k σ _ _ P.1 P.2
end
section
variable {X : Cx} {pos : Pos}
variable {H0 : Hp} {B0 : Addr → Prop} {fr : Bool} {RX : XR}
end
end L2
namespace L2
open PySem PySem.Spec PyProof.Rows
section
variable {X : Cx} {e : Expr} {f : DE} {y z : Str} {p p2 p3 p4 pos : Pos} {x1 : Nat} {L M1 M2 N : List Str}
end
end L2
namespace L2
open PySem PySem.Spec PyProof.Rows
section
variable {X : Cx} {o e : Expr} {apos cpos : Pos}
end
theorem Trees.setN {K : PySem.W.Frag} {H : Hp} {d : D} {y : V} {C : List Addr} (ty : Tree K H d y C) : ∀ {ds : List D} {xs : List V} {A : List Addr} (j : Nat), Trees K H ds xs A → ∃ A', Trees K H (ds.set j d) (xs.set j y) A' ∧ ((A ++ C).Nodup → A'.Nodup) ∧ ∀ a ∈ A', a ∈ A ∨ a ∈ C
 | [], _, _, _, h => by
  obtain ⟨rfl, rfl⟩ := h
  exact ⟨[], ⟨rfl, rfl⟩, fun _ => List.nodup_nil, fun a z => nomatch z⟩
 | e :: ds, _, _, 0, h => by
  unfold Trees at h
  obtain ⟨x, r, A1, A2, rfl, h1, h2, rfl⟩ := h
  refine ⟨C ++ A2, ?_, fun nd => ?_, fun a ha => ?_⟩
  ·rw [List.set_cons_zero, List.set_cons_zero]
   unfold Trees
   exact ⟨y, r, C, A2, rfl, ty, h2, rfl⟩
  ·obtain ⟨n1, n2, n3⟩ := List.nodup_append.mp nd
   obtain ⟨m1, m2, m3⟩ := List.nodup_append.mp n1
   exact List.nodup_append.mpr ⟨n2, m2, fun a ha b hb z => n3 b (List.mem_append_right _ hb) a ha z.symm⟩
  ·rcases List.mem_append.mp ha with z | z
   ·exact .inr z
   ·exact .inl (List.mem_append_right _ z)
 | e :: ds, _, _, k + 1, h => by
  unfold Trees at h
  obtain ⟨x, r, A1, A2, rfl, h1, h2, rfl⟩ := h
  obtain ⟨A', t, nd', sb⟩ := Trees.setN ty k h2
  refine ⟨A1 ++ A', ?_, fun nd => ?_, fun a ha => ?_⟩
  ·rw [List.set_cons_succ, List.set_cons_succ]
   unfold Trees
   exact ⟨x, _, A1, A', rfl, h1, t, rfl⟩
  ·rw [List.append_assoc] at nd
   obtain ⟨n1, n2, n3⟩ := List.nodup_append.mp nd
   refine List.nodup_append.mpr ⟨n1, nd' n2, fun a ha b hb z => ?_⟩
   rcases sb b hb with w | w
   ·exact n3 a ha b (List.mem_append_left _ w) z
   ·exact n3 a ha b (List.mem_append_right _ w) z
  ·rcases List.mem_append.mp ha with z | z
   ·exact .inl (List.mem_append_left _ z)
   ·rcases sb a z with w | w
    ·exact .inl (List.mem_append_right _ w)
    ·exact .inr w
section
variable {X : Cx} {H0 : Hp} {B0 : Addr → Prop} {fr : Bool} {RX : XR} {e ke : Expr} {pos : Pos} {x : Str} {px p2 : Pos}
def st0N (i : Nat) (fk fv : DE) : SS → Option Out := fun δ => (fv (allV δ)).bind fun d => (fk (allV δ)).bind fun dk => (match dk, δ[i]? with
 | .int k, some (some (.ow (.lst ds))) => (ixN ds.length k).map fun j => .nx ((dropBs i δ).set i (some (.ow (.lst (ds.set j d)))))
 | _, _ => none)
theorem s_st0N {i : Nat} {fk fv : DE} (hx : PE X (.Name x px) (tVar i)) (hk : PD X ke fk) (hv : PN X e fv)
  (ha : ∀ v, assign (.Subscript (.Name x px) ke p2) X.env v = (do
   let ov ← holding [v] (eval (.Name x px) X.env)
   let iv ← holding [v, ov] (eval ke X.env)
   standAt p2
   holding [v, ov, iv] (setItem ov iv v)
   release [v, ov, iv] []) := by intro _; rfl)
  (hs : swapsWithSole [.Subscript (.Name x px) ke p2] e pos.line X.env = pure false := by rfl) (hw : swappedStores [.Subscript (.Name x px) ke p2] e X.env = pure none := by rfl)
  (h1 : (assignEach [.Subscript (.Name x px) ke p2] X.env).map (·.2) = [assign (.Subscript (.Name x px) ke p2) X.env] := by rfl) :
  PS X (.Assign [.Subscript (.Name x px) ke p2] e pos) (tS X.K H0 B0 fr RX (st0N i fk fv)) :=
 PS.imp (ps_asg hv (pg_sub hx hk set_list ha) hs hw h1) fun D σ H ⟨δ, R, o, rs, q, kk⟩ => by
  unfold st0N at q
  cases e1 : fv (allV δ) with
  | none => rw [e1] at q; cases q
  | some d =>
  rw [e1, Option.bind_some] at q
  cases e2 : fk (allV δ) with
  | none => rw [e2] at q; cases q
  | some dk =>
  rw [e2, Option.bind_some] at q
  split at q
  case h_2 => cases q
  case h_1 =>
  rename_i k ds ei
  cases ej : ixN ds.length k with
  | none => rw [ej] at q; cases q
  | some j =>
  rw [ej] at q
  cases q
  obtain ⟨a, xs, A, ev, ha', ts, eR, nd⟩ := rs.top ei
  refine ⟨allV δ, d, rs.all, e1, fun v H1 C s1 t1 nC fC => ⟨.ref a, ev, noB, allV δ, .int k, .no, rs.all.mono s1, e2, fun v2 H2 s2 r2 => ?_⟩⟩
  cases (show v2 = V.int k from r2)
  refine ⟨a, xs, k, j, rfl, rfl, s2 _ _ (s1 _ _ ha'), by rw [← ts.length]; exact ej, ?_⟩
  obtain ⟨A', t', nd', sb⟩ := Trees.setN (t1.mono s2) j (ts.mono (s1.trans s2))
  have hAC : (A ++ C).Nodup := List.nodup_append.mpr ⟨(List.nodup_cons.mp nd).2, nC, fun p hp c hc z => by
   subst z
   obtain ⟨u, q, _⟩ := Trees.held ds ts p hp
   rw [fC p hc] at q; cases q⟩
  have P := rs.put0 (s1.trans s2) ei ev eR nd t' (nd' hAC) fun b hb => (sb b hb).imp id (fC b)
  exact kk σ _ _ P.1 P.2
end
end L2
namespace L2
open PySem PySem.Spec PyProof.Rows
section
variable {X : Cx} {H0 : Hp} {B0 : Addr → Prop} {fr : Bool} {RX : XR} {pos : Pos}
end
end L2
namespace L2
open PySem PySem.Spec PyProof.Rows
section
variable {K : PySem.W.Frag} {H : Hp} {B : Addr → Prop} {m : Addr} {xs : List V} {o : Obj}
def intsO : List D → Option (List Int)
 | [] => some []
 | .int i :: ds => (intsO ds).map (i :: ·)
 | _ => none
theorem intsO_eq : ∀ {ds : List D} {ns : List Int}, intsO ds = some ns → ds = ns.map .int
 | [], _, h => by cases h; rfl
 | d :: ds, ns, h => by
  cases d
  case int i =>
   unfold intsO at h
   cases e : intsO ds with
   | none => rw [e] at h; cases h
   | some ms =>
    rw [e] at h
    cases h
    rw [intsO_eq e]; rfl
  all_goals (unfold intsO at h; cases h)
theorem trees_ints : ∀ {ns : List Int} {ys : List V} {A : List Addr}, Trees K H (ns.map .int) ys A → ys = ns.map V.int ∧ A = []
 | [], _, _, h => h
 | n :: ns, ys, A, h => by
  rw [List.map_cons] at h
  unfold Trees at h
  obtain ⟨x, r, B', C, e, t, ts, eA⟩ := h
  unfold Tree at t
  obtain ⟨e1, e2⟩ := trees_ints ts
  rw [e, eA, t.1, t.2, e1, e2]
  exact ⟨rfl, rfl⟩
end
section
variable {X : Cx} {H0 : Hp} {B0 : Addr → Prop} {fr : Bool} {RX : XR} {st : Stmt}
end
end L2
namespace L2
open PySem PySem.Spec PyProof.Rows
section
variable {K : PySem.W.Frag} {H : Hp} {B : Addr → Prop} {m : Addr} {xs : List V}
end
section
variable {K : PySem.W.Frag} {H0 H H' : Hp} {B0 : Addr → Prop} {σ : St} {δ : SS} {R : Nat → List Addr}
end
section
variable {X : Cx} {H0 : Hp} {B0 : Addr → Prop} {fr : Bool} {RX : XR} {st1 st2 : Stmt} {sts : List Stmt} {f : DE} {z : Int}
end
end L2
namespace L2
open PySem PySem.Spec PyProof.Rows
section
variable {P : Program} {w : World} {K : PySem.W.Frag} {mg : Str → Option Value} {base : Heap}
end
section
variable {X : Cx} {e : Expr} {pos ap cp p2 : Pos} {x : Str} {px : Pos} {f : DE} {z : Int} {ke : Expr}
end
end L2
namespace L2
open PySem PySem.Spec PyProof.Rows
section
variable {X : Cx}
variable {e : Expr} {f : DE} {p pos : Pos}
end
end L2
namespace L2
open PySem PySem.Spec PyProof.Rows
section
variable {X : Cx} {H0 : Hp} {B0 : Addr → Prop} {fr : Bool} {RX : XR} {e : Expr} {pos ap cp ap2 cp2 : Pos} {x y : Str} {px py : Pos}
end
end L2
namespace L2
open PySem PySem.Spec PyProof.Rows
section
variable {prog : Program} {w : World} {A : Around} {E : Value → Shared → Prop} {s : Shared} {it t : Addr} {i : Nat} {its : Array Value} {Q : Fin → Shared → Prop} {o ol : Obj} {n : Nat} {x : Value}
end
section
variable {prog : Program} {w : World} {A : Around} {E : Value → Shared → Prop} {s : Shared} {z TI TO i1 i2 : Addr} {a b : Value}
end
section
variable {prog : Program} {w : World} {A : Around} {E : Value → Shared → Prop} {s : Shared} {z TI TO i1 i2 : Addr} {a b : Value}
end
end L2
namespace L2
open PySem PySem.Spec PyProof.Rows
def SIt (h : Heap) (tp : Bool) (it a : Addr) (i : Nat) : Prop := if tp = true then h.IsTupleIter it a i else h.IsListIter it a i
section
variable {X : Cx} {pins : List (Addr × Obj)} {σ : St} {H : Hp} {s : Shared} {a : Addr} {xs ys : List V} {tp : Bool}
end
structure ZipAt (h : Heap) (tp : Bool) (a b z TI TO i1 i2 : Addr) (i : Nat) : Prop where
 zip : IsZip h z TI TO .none
 its : IsPair h TI (.ref i1) (.ref i2)
 out : ∃ u v, IsPair h TO u v
 one : SIt h tp i1 a i
 two : SIt h false i2 b i
end L2
namespace L2
open PySem PySem.Spec PyProof.Rows
def fzH (ob : Addr → Obj) (L : Addr → Bool) (H : Hp) : Hp := fun a => match H a with
 | some (.lst xs) => if L a = true then some (.frz (ob a) (.lst xs)) else some (.lst xs)
 | z => z
section
variable {ob : Addr → Obj} {L : Addr → Bool} {H : Hp} {a : Addr}
theorem fzH_on {xs : List V} (h : H a = some (.lst xs)) (hl : L a = true) : fzH ob L H a = some (.frz (ob a) (.lst xs)) := by
 unfold fzH
 rw [h]
 exact if_pos hl
theorem fzH_off (hl : L a = false) : fzH ob L H a = H a := by
 unfold fzH
 cases h : H a with
 | none => rfl
 | some u =>
  cases u with
  | lst xs => exact if_neg (by rw [hl]; exact Bool.false_ne_true)
  | _ => rfl
theorem fzH_oth (h : ∀ xs, H a ≠ some (.lst xs)) : fzH ob L H a = H a := by
 unfold fzH
 cases e : H a with
 | none => rfl
 | some u =>
  cases u with
  | lst xs => exact (h xs e).elim
  | _ => rfl
theorem fzH_no (h : fzH ob L H a = none) : H a = none := by
 cases e : H a with
 | none => rfl
 | some u =>
  cases u with
  | lst xs =>
   cases hl : L a with
   | true => rw [fzH_on e hl] at h; cases h
   | false => rw [fzH_off hl, e] at h; cases h
  | _ => rw [fzH_oth (fun xs z => by rw [e] at z; cases z), e] at h; cases h
end
theorem Inv.fz {X : Cx} {pins : List (Addr × Obj)} {σ : List (Option V)} {H : Hp} {s : Shared} (I : Inv X pins σ H s) (L : Addr → Bool) : ∃ ob, Inv X pins σ (fzH ob L H) s := by
 refine ⟨fun a => (s.heap.get? a).getD ⟨.none, none, .fields #[], #[]⟩, ?_⟩
 have no : ∀ {b : Addr}, H b = none → fzH (fun a => (s.heap.get? a).getD ⟨.none, none, .fields #[], #[]⟩) L H b = none := fun z => by rw [fzH_oth (fun xs w => by rw [z] at w; cases w)]; exact z
 have ot : ∀ {b : Addr} {u : HO}, H b = some u → (∀ xs, u ≠ .lst xs) → fzH (fun a => (s.heap.get? a).getD ⟨.none, none, .fields #[], #[]⟩) L H b = some u := fun z hu => by rw [fzH_oth (fun xs w => by rw [z] at w; exact hu xs (Option.some.inj w))]; exact z
 have st : ∀ {b : Addr} {u : HO}, ObjOk X.prog X.w H s.heap b u → ObjOk X.prog X.w (fzH (fun a => (s.heap.get? a).getD ⟨.none, none, .fields #[], #[]⟩) L H) s.heap b u := fun x => x.stay (fun _ _ _ q => q) (fun d z => ot z fun _ w => by cases w) fun d xs z => ot z fun _ w => by cases w
 refine ⟨I.ok, I.os, I.bare, ⟨I.base.keep, I.base.slot, fun b o q n hx => no (I.base.free b o q n hx), I.base.there, fun b xs q => ot (I.base.tups b xs q) fun _ w => (by cases w), fun b o u q => ot (I.base.frzs b o u q) fun _ w => (by cases w), fun b ps q => ?_⟩,
  I.loc, I.cell, no I.free, fun x c h => no (I.freeC x c h), fun p hp => ?_, fun b u q => ?_, I.len⟩
 ·obtain ⟨more, z⟩ := I.base.tbls b ps q
  exact ⟨more, ot z fun _ w => by cases w⟩
 ·obtain ⟨p1, p2, p3⟩ := I.pin p hp
  exact ⟨p1, no p2, p3⟩
 ·cases e : H b with
  | none => rw [no e] at q; cases q
  | some u0 =>
   by_cases hu : ∃ xs, u0 = .lst xs
   ·obtain ⟨xs, rfl⟩ := hu
    have ok := I.hok b _ e
    cases hl : L b with
    | false =>
     rw [fzH_off hl, e] at q
     cases q
     exact st ok
    | true =>
     rw [fzH_on e hl] at q
     cases q
     obtain ⟨z, its, n, r, eg⟩ := (show ObjOk X.prog X.w H s.heap b (.lst xs) from ok)
     refine ⟨?_, st ok⟩
     rw [eg]
     rfl
   ·rw [ot e fun xs w => hu ⟨xs, w⟩] at q
    cases q
    exact st (I.hok b _ e)
section
variable {K : PySem.W.Frag} {ob : Addr → Obj} {L : Addr → Bool} {H0 H : Hp} {B B0 : Addr → Prop} {σ : St} {δ : SS} {R : Nat → List Addr}
theorem Keep.fz (hb : ∀ a, L a = true → B a) : Keep K B H (fzH ob L H) := by
 have off : ∀ {a : Addr}, ¬ B a → L a = false := fun {a} n => by
  cases h : L a with
  | false => rfl
  | true => exact (n (hb a h)).elim
 have ot : ∀ {b : Addr} {u : HO}, H b = some u → (∀ xs, u ≠ .lst xs) → fzH ob L H b = some u := fun z hu => by rw [fzH_oth (fun xs w => by rw [z] at w; exact hu xs (Option.some.inj w))]; exact z
 refine ⟨fun b xs n h => by rw [fzH_off (off n)]; exact h, fun b xs h => ?_, fun b xs h => ?_, fun b kvs n h => ot h fun _ w => (by cases w), fun b φ n h => ot h fun _ w => by cases w⟩
 ·rcases h with (h | ⟨u, h⟩) | h
  ·exact .inl (.inl (ot h fun _ w => by cases w))
  ·exact .inl (.inr ⟨u, ot h fun _ w => by cases w⟩)
  ·exact .inr h
 ·rcases h with ⟨u, h⟩ | h
  ·exact .inl ⟨u, ot h fun _ w => by cases w⟩
  ·exact .inr h
theorem dropBs_lenE {i : Nat} {δ : SS} : (dropBs i δ).length = δ.length := by unfold dropBs; rw [List.length_map]
theorem RS.fz {i : Nat} {x : SD} {A' : List Addr} (rs : RS K H0 B0 H σ δ R) (hL : ∀ a, L a = true → a ∈ R i) (hA : ∀ a ∈ A', a ∈ R i ∧ L a = false) (nd : A'.Nodup)
  (hs : ∀ d, x = .sh d → ∃ v, σ[i]? = some (some v) ∧ Rep K (fzH ob L H) (fun a => B0 a ∨ ∃ r, a ∈ setR R i A' r) d v) (hb : ∀ r d, x ≠ .bo r d) (ho : ∀ d, x = .ow d → ∃ v, σ[i]? = some (some v) ∧ Tree K (fzH ob L H) d v A') :
  RS K H0 B0 (fzH ob L H) σ ((dropBs i δ).set i (some x)) (setR R i A') ∧ Stp R H (setR R i A') (fzH ob L H) := by
 have sub : ∀ r a, a ∈ setR R i A' r → a ∈ R r ∧ L a = false := fun r a z => by
  by_cases hr : r = i
  ·subst hr
   rw [setR_same] at z
   exact hA a z
  ·rw [setR_ne hr] at z
   refine ⟨z, ?_⟩
   cases h : L a with
   | false => rfl
   | true => exact (hr (rs.disj r i a z (hL a h))).elim
 have off : ∀ {a : Addr}, a ∉ R i → L a = false := fun {a} n => by
  cases h : L a with
  | false => rfl
  | true => exact (n (hL a h)).elim
 refine ⟨⟨fun a o h => ?_, rs.inB, by rw [List.length_set, dropBs_lenE]; exact rs.len, fun r a z => rs.new r a (sub r a z).1, fun r a z => ?_, fun r s a h h' => rs.disj r s a (sub r a h).1 (sub s a h').1, fun j d z => ?_, fun j r d z => ?_, fun j d z => ?_⟩, ⟨fun a o h n => ?_, fun r a z => .inl ⟨r, (sub r a z).1⟩, fun a z => fzH_no z⟩⟩
 ·have n : a ∉ R i := fun z => by rw [rs.new i a z] at h; cases h
  rw [fzH_off (off n)]
  exact rs.keep a o h
 ·obtain ⟨o, e, m⟩ := rs.held r a (sub r a z).1
  exact ⟨o, by rw [fzH_off (sub r a z).2]; exact e, m⟩
 ·rcases get_set z with ⟨rfl, e, _⟩ | ⟨hj, e⟩
  ·exact hs d (Option.some.inj e)
  ·obtain ⟨v, ev, r⟩ := rs.sh j d (dropBs_get e).1
   exact ⟨v, ev, Rep.anti (fun a h => h.elim .inl fun ⟨r, h⟩ => .inr ⟨r, (sub r a h).1⟩) d (Rep.keep (.fz fun a h => .inr ⟨i, hL a h⟩) d r)⟩
 ·rcases get_set z with ⟨rfl, e, _⟩ | ⟨hj, e⟩
  ·exact (hb r d (Option.some.inj e)).elim
  ·obtain ⟨e1, e2⟩ := dropBs_get e
   have hri : i ≠ r := fun w => e2 d (by rw [w])
   obtain ⟨v, ev, q⟩ := rs.bo j r d e1
   exact ⟨v, ev, Rep.anti (fun a h => h.elim .inl fun ⟨s, hs, h⟩ => .inr ⟨s, hs, (sub s a h).1⟩) d (Rep.keep (.fz fun a h => .inr ⟨i, hri, hL a h⟩) d q)⟩
 ·rcases get_set z with ⟨rfl, e, _⟩ | ⟨hj, e⟩
  ·obtain ⟨v, ev, t⟩ := ho d (Option.some.inj e)
   rw [setR_same]
   exact ⟨v, ev, t, nd⟩
  ·obtain ⟨v, ev, t, n⟩ := rs.ow j d (dropBs_get e).1
   rw [setR_ne hj]
   refine ⟨v, ev, Tree.keep (Keep.fz (B := fun a => a ∈ R i) hL).i d t fun a ha o q => ?_, n⟩
   rw [fzH_off (off fun w => hj (rs.disj j i a ha w))]
   exact q
 ·rw [fzH_off (off (n i))]
  exact h
end
def scrs : List D → Option (List D)
 | [] => some []
 | .lst ds :: r => (intsO ds).bind fun ns => (scrs r).map (.scr ns :: ·)
 | d :: r => if d.imm = true then (scrs r).map (d :: ·) else none
section
variable {K : PySem.W.Frag} {ob : Addr → Obj} {L : Addr → Bool} {H : Hp}
theorem scrs_tree {L : Addr → Bool} : ∀ {ds es : List D} {xs : List V} {A : List Addr}, scrs ds = some es → Trees K H ds xs A → (∀ a ∈ A, L a = true) → Trees K (fzH ob L H) es xs []
 | [], es, xs, A, h, t, _ => by
  cases h
  unfold Trees at t ⊢
  exact ⟨t.1, rfl⟩
 | d :: r, es, xs, A, h, t, hA => by
  unfold Trees at t
  obtain ⟨x, ys, B, C, ex, tx, ts, eA⟩ := t
  have im : ∀ r', d.imm = true → scrs r = some r' → Trees K (fzH ob L H) (d :: r') xs [] := fun r' hd er => by
   have t1 : Tree K H d x [] := Rep.immTree d hd (Tree.rep d (B := noB) tx fun _ _ z => z)
   have t2 := scrs_tree er ts fun a ha => hA a (by rw [eA]; exact List.mem_append_right _ ha)
   unfold Trees
   exact ⟨x, ys, [], [], ex, Tree.keep (Keep.fz (B := fun _ => True) fun _ _ => trivial).i d t1 (fun a ha => nomatch ha), t2, rfl⟩
  by_cases hd : ∃ ds, d = .lst ds
  ·obtain ⟨ds, rfl⟩ := hd
   unfold scrs at h
   cases en : intsO ds with
   | none => rw [en] at h; cases h
   | some ns =>
    rw [en] at h
    have h : (scrs r).map (D.scr ns :: ·) = some es := h
    obtain ⟨r', er, e'⟩ := Option.map_eq_some_iff.mp h
    subst e'
    have t2 := scrs_tree er ts fun a ha => hA a (by rw [eA]; exact List.mem_append_right _ ha)
    unfold Tree at tx
    obtain ⟨a, zs, B', e1, ha, tz, eB⟩ := tx
    rw [intsO_eq en] at tz
    have ez := (trees_ints tz).1
    unfold Trees
    refine ⟨x, ys, [], [], ex, ?_, t2, rfl⟩
    unfold Tree
    refine ⟨⟨a, e1, .inl ⟨ob a, ?_⟩⟩, rfl⟩
    rw [fzH_on ha (hA a (by rw [eA, eB]; simp)), ez]
  ·have h : (if d.imm = true then (scrs r).map (d :: ·) else none) = some es := by
    cases d
    case lst ds => exact (hd ⟨ds, rfl⟩).elim
    all_goals exact h
   split at h
   case isFalse => cases h
   case isTrue hi =>
   obtain ⟨r', er, e'⟩ := Option.map_eq_some_iff.mp h
   subst e'
   exact im r' hi er
end
def fzsO (i : Nat) (g : SS → Option Out) : SS → Option Out := fun δ => match δ[i]? with
 | some (some (.ow (.lst ds))) => (scrs ds).bind fun es => g ((dropBs i δ).set i (some (.ow (.lst es))))
 | _ => none
section
variable {X : Cx} {H0 : Hp} {B0 : Addr → Prop} {fr : Bool} {RX : XR} {st : Stmt}
theorem s_fzs (i : Nat) {g : SS → Option Out} (h : PS X st (tS X.K H0 B0 fr RX g)) : PS X st (tS X.K H0 B0 fr RX (fzsO i g)) := by
 rintro pins s σ H D I ⟨δ, R, o, rs, q, k⟩
 unfold fzsO at q
 split at q
 case h_2 => cases q
 case h_1 ds ei =>
 cases en : scrs ds with
 | none => rw [en] at q; cases q
 | some es =>
 rw [en] at q
 have q : g ((dropBs i δ).set i (some (.ow (.lst es)))) = some o := q
 obtain ⟨v, ev, t, nd⟩ := rs.ow i _ ei
 unfold Tree at t
 obtain ⟨a, xs, B, rfl, ha, ts, eA⟩ := t
 have nd0 := nd
 rw [eA] at nd0
 have na : a ∉ B := (List.nodup_cons.mp nd0).1
 obtain ⟨ob, I1⟩ := I.fz fun b => decide (b ∈ B)
 have la : decide (a ∈ B) = false := decide_eq_false na
 obtain ⟨rs1, s1⟩ := rs.fz (ob := ob) (L := fun b => decide (b ∈ B)) (i := i) (x := .ow (.lst es)) (A' := [a]) (fun b hb => by rw [eA]; exact List.mem_cons_of_mem _ (of_decide_eq_true hb)) (fun b hb => by rw [List.mem_singleton.mp hb, eA]; exact ⟨List.mem_cons_self, la⟩)
  (List.nodup_cons.mpr ⟨fun z => (nomatch z), List.nodup_nil⟩) (fun d e => by cases e) (fun r d e => by cases e) fun d e => by
   cases e
   refine ⟨_, ev, ?_⟩
   unfold Tree
   exact ⟨a, xs, [], rfl, by rw [fzH_off la]; exact ha, scrs_tree en ts fun b hb => decide_eq_true hb, rfl⟩
 exact h pins s σ _ D I1 ⟨_, _, o, rs1, q, k.back s1⟩
def fzD : D → Option D
 | .lst ds => match intsO ds with
  | some ns => some (.scr ns)
  | none => (scrs ds).map .lst
 | _ => none
def dFz (f : DE) : DE := fun δ => (f δ).bind fzD
theorem pn_fz {e : Expr} {f : DE} (h : PN X e f) : PN X e (dFz f) := by
 rintro pins s σ H Q I ⟨δ, d', S, q, k⟩
 unfold dFz at q
 cases ef : f δ with
 | none => rw [ef] at q; cases q
 | some d =>
 rw [ef] at q
 have q : fzD d = some d' := q
 refine thn (h pins s σ H (fun v H1 => ∃ A, Same H H1 ∧ Tree X.K H1 d v A ∧ A.Nodup ∧ ∀ a ∈ A, H a = none) I ⟨δ, d, S, ef, fun v H1 A s1 t nd fr => ⟨A, s1, t, nd, fr⟩⟩) fun u s1 ⟨y, H1, I1, r1, A, sm, t, nd, fr⟩ => ?_
 unfold fzD at q
 split at q
 case h_2 => cases q
 case h_1 ds =>
 unfold Tree at t
 obtain ⟨a, xs, B, rfl, ha, ts, eA⟩ := t
 have ne : ∀ {b : Addr} {w : HO}, H b = some w → b ∉ A := fun hb z => by rw [fr _ z] at hb; cases hb
 split at q
 ·rename_i ns en
  cases q
  rw [intsO_eq en] at ts
  obtain ⟨ex, eB⟩ := trees_ints ts
  obtain ⟨ob, I2⟩ := I1.fz fun b => decide (b = a)
  refine ⟨_, _, I2, r1, k _ _ [] (fun b w hb => ?_) ?_ List.nodup_nil fun b hb => nomatch hb⟩
  ·rw [fzH_off (decide_eq_false fun z => ne hb (by rw [eA, z]; exact List.mem_cons_self))]
   exact sm b w hb
  ·unfold Tree
   exact ⟨⟨a, rfl, .inl ⟨ob a, by rw [fzH_on ha (decide_eq_true rfl), ex]⟩⟩, rfl⟩
 ·obtain ⟨es, en, rfl⟩ := Option.map_eq_some_iff.mp q
  rw [eA] at nd
  have na : a ∉ B := (List.nodup_cons.mp nd).1
  have la : decide (a ∈ B) = false := decide_eq_false na
  obtain ⟨ob, I2⟩ := I1.fz fun b => decide (b ∈ B)
  refine ⟨_, _, I2, r1, k _ _ [a] (fun b w hb => ?_) ?_ (List.nodup_cons.mpr ⟨fun z => (nomatch z), List.nodup_nil⟩) fun b hb => by rw [List.mem_singleton.mp hb]; exact fr a (by rw [eA]; exact List.mem_cons_self)⟩
  ·rw [fzH_off (decide_eq_false fun z => ne hb (by rw [eA]; exact List.mem_cons_of_mem _ z))]
   exact sm b w hb
  ·unfold Tree
   exact ⟨a, xs, [], rfl, by rw [fzH_off la]; exact ha, scrs_tree en ts fun b hb => decide_eq_true hb, rfl⟩
end
end L2
namespace L2
open PySem PySem.Spec PyProof.Rows
def memS (x : D) : D → Option Bool
 | .scr ns => if okP x = true then some (ns.any fun n => PyData.eqv (.int n) (toP x)) else none
 | y => memD x y
def inS (x y : D) : Option D := (memS x y).map .bl
def rInS (K : PySem.W.Frag) (neg : Bool) : R2 := fun x y H Q => ∃ B dx dy b, Rep K H B dx x ∧ Rep K H B dy y ∧ memS dx dy = some b ∧ Q (.bl (if neg then !b else b)) H
theorem lay_int : ∀ ns : List Int, PyData.canLayAll0 (ns.map PyData.int) = true
 | [] => rfl
 | n :: r => by
  show (PyData.canLay0 (.int n) && PyData.canLayAll0 (r.map PyData.int)) = true
  rw [lay_int r]
  rfl
section
variable {X : Cx}
theorem op_inS (hu : X.A.units + 64 < cLine) : OpR X (compareOp .In) (rInS X.K false) := by
 intro pins s σ H x y v u Q I rx ry h
 obtain ⟨B, dx, dy, b, r1, r2, o, q⟩ := h
 unfold memS at o
 split at o
 ·split at o
  ·rename_i ns h
   cases o
   obtain ⟨as, ra⟩ := rep_reads I dx (okP_get h).1 r1 rx
   obtain ⟨bs, rb⟩ := rep_reads I (.scr ns) (lay_int ns) r2 ry
   unfold toP at rb
   refine SeqAt.in_list_reads rb ra (lay_int ns) (okP_get h).1 (by have := (okP_get h).2; omega) ?_
   rw [List.any_map]
   exact ⟨.bl _, H, I, rfl, q⟩
  ·cases o
 ·exact op_inD hu pins s σ H x y v u Q I rx ry ⟨B, dx, dy, b, r1, r2, o, q⟩
theorem o2_inS {K : PySem.W.Frag} : Op2 K (rInS K false) inS := by
 intro H B dx dy d x y Q hB hx hy q k
 unfold inS at q
 obtain ⟨b, e, rfl⟩ := Option.map_eq_some_iff.mp q
 exact ⟨B, dx, dy, b, hx, hy, e, k _ H (.refl H) rfl⟩
variable {a b : Expr} {f g : DE} {pos : Pos}
theorem pt_inS (hu : X.A.units + 64 < cLine) (ha : PD X a f) (hb : PD X b g) (hm : behindInMarks .In b = false := by rfl) : PTD X (.Compare a [.In] [b] pos) (dTest (d2 inS f g)) := pt_cmpD (op_inS hu) o2_inS ha hb hm
end
end L2
namespace PySem
section
variable {prog : Program} {w : World} {A : Around} {E : Value → Shared → Prop} {s : Shared}
set_option maxHeartbeats 3200000 in
open PyProof.Rows in
end
end PySem
namespace L2
open PySem PySem.Spec PyProof.Rows
section
variable {X : Cx} {e : Expr} {te : TE} {p p' pos pos' : Pos}
variable {f : DE}
end
end L2
namespace L2
open PySem PySem.Spec PyProof.Rows
section
variable {X : Cx} {ka va kb vb : Expr} {pos : Pos} {fa fb fc fd : DE}
end
end L2
namespace L2
open PySem PySem.Spec PyProof.Rows
section
variable {X : Cx} {N' : List Str} {sc : Scope} {iter elt : Expr} {ifs : List Expr} {n : Nat} {x x' : Str} {px px' tp pos : Pos} {x1 : Nat} {fi : DS → Option (List D)} {fc : DS → Option Bool} {fe : DE}
end
end L2
namespace L2
open PySem PySem.Spec PyProof.Rows
section
variable {P : Program} {w : World} {K : PySem.W.Frag} {mg : Str → Option Value} {base : Heap}
end
section
variable {X : Cx} {k : Nat} {sp : Sp} {cl : Nat → Value} {RX : XR} {x : Str} {p pos pos2 : Pos} {e : Expr} {es : List Expr} {t : TA}
variable {H0 : Hp} {B0 : Addr → Prop} {fr : Bool} {F : DS → Option XO}
end
end L2
namespace L2
open PySem PySem.Spec PyProof.Rows
section
variable {K : PySem.W.Frag} {H : Hp} {B : Addr → Prop} {m : Addr} {c : Int} {ys : List V}
end
section
variable {K : PySem.W.Frag} {H0 H H' : Hp} {B0 : Addr → Prop} {σ : St} {δ : SS} {R : Nat → List Addr}
end
section
variable {X : Cx} {H0 : Hp} {B0 : Addr → Prop} {fr : Bool} {RX : XR} {st1 : Stmt} {sts : List Stmt} {f : DE} {x : Str} {px p2 ap cp pos : Pos} {ke e : Expr}
end
end L2
namespace L2
open PySem PySem.Spec PyProof.Rows
section
variable {X : Cx} {a b c e o : Expr} {f g h : DE} {p pos apos cpos p2 : Pos} {tg : Expr}
end
end L2
namespace L2
open PySem PySem.Spec PyProof.Rows
instance {i j : Int} : Decidable (CDivN i j) := by unfold CDivN; infer_instance
section
variable {X : Cx} {a b e : Expr} {f g : DE} {p pos : Pos}
end
end L2
namespace L2
open PySem
theorem runD_rt {np nl : Nat} {g : SS → Option Out} {ds : List D} {d : D} (hl : ds.length = np) (e : g (ds.map (fun d => some (.sh d)) ++ List.replicate nl none) = some (.rt d)) : runD np nl g ds = some d := by
 unfold runD
 rw [if_pos hl, e]
theorem small_line {n : Nat} (h : n ≤ 1000000) : n ≤ sizeLine := by rw [PySem.sizeLine_eq]; omega
def bD (b : Bool) : D := .bl b
def rowD (r : List Bool) : D := .lst (r.map bD)
def tabD (T : List (List Bool)) : D := .lst (T.map rowD)
theorem ix_nat {ds : List D} {k : Nat} {d : D} (h : ds[k]? = some d) : ixD (.lst ds) (.int (k : Int)) = some d := atI_nat h
theorem bools_map : ∀ bs : List Bool, bools (bs.map bD) = some bs
 | [] => rfl
 | b :: bs => by
  show (bools (bs.map bD)).map (b :: ·) = _
  rw [bools_map bs]
  rfl
theorem imms_map_bD : ∀ r : List Bool, imms (r.map bD) = true
 | [] => rfl
 | b :: r => by
  show (true && imms (r.map bD)) = true
  rw [imms_map_bD r]
  rfl
end L2
namespace L2
open PySem
theorem row_ix {r : List Bool} {k : Nat} (h : k < r.length) : ixD (rowD r) (.int (k : Int)) = some (.bl r[k]) := ix_nat (by rw [List.getElem?_map, List.getElem?_eq_getElem h]; rfl)
theorem tab_ix {T : List (List Bool)} {k : Nat} (h : k < T.length) : ixD (tabD T) (.int (k : Int)) = some (rowD T[k]) := ix_nat (by rw [List.getElem?_map, List.getElem?_eq_getElem h]; rfl)
theorem ixN_nat {n k : Nat} (h : k < n) : ixN n (k : Int) = some k := by
 unfold ixN
 rw [if_pos (by omega), if_pos (by omega)]
 simp
def Sq (n : Nat) (T : List (List Bool)) : Prop := T.length = n ∧ ∀ r ∈ T, r.length = n
theorem Sq.row {n : Nat} {T : List (List Bool)} (h : Sq n T) {k : Nat} (hk : k < T.length) : T[k].length = n := h.2 _ (List.getElem_mem hk)
theorem Sq.set {n : Nat} {T : List (List Bool)} (h : Sq n T) {a b : Nat} {v : Bool} (ha : a < T.length) : Sq n (T.set a (T[a].set b v)) := by
 refine ⟨by simp [h.1], fun r hr => ?_⟩
 rcases List.mem_or_eq_of_mem_set hr with z | z
 ·exact h.2 r z
 ·subst z
  rw [List.length_set]
  exact h.row ha
end L2
namespace L2
open PySem
def hol {α : Type} (x : Option α) (Q : α → Prop) : Prop := ∃ a, x = some a ∧ Q a
section
variable {α β : Type} {Q : α → Prop} {R : β → Prop}
theorem hol_some {a : α} : hol (some a) Q = Q a := propext ⟨fun ⟨_, e, q⟩ => by cases e; exact q, fun q => ⟨a, rfl, q⟩⟩
theorem hol_is {x : Option α} {a : α} : hol x (fun b => b = a) ↔ x = some a := ⟨fun ⟨_, e, q⟩ => q ▸ e, fun e => ⟨a, e, rfl⟩⟩
end
def asB : D → Option Bool
 | .bl b => some b
 | _ => none
section
variable {Q : D → Prop} {QB : Bool → Prop} {QL : List D → Prop} {QO : Out → Prop} {δ : DS} {s : SS} {f g h : DE} {F : D → D → Option D}
theorem ho_var0 {x : Option D} {r : DS} : dVar 0 (x :: r) = x := by cases x <;> rfl
def owA (i : Nat) (s : SS) : Option D := match s[i]? with
 | some (some (.ow d)) => some d
 | _ => none
theorem run_of {np nl : Nat} {b : SS → Option Out} {ds : List D} {d : D} (hl : ds.length = np) (h : hol (b (ds.map (fun d => some (.sh d)) ++ List.replicate nl none)) fun o => o = .rt d) : runD np nl b ds = some d := runD_rt hl (hol_is.mp h)
theorem hol_run {np nl : Nat} {b : SS → Option Out} {ds : List D} (hl : ds.length = np) (h : hol (b (ds.map (fun d => some (.sh d)) ++ List.replicate nl none)) fun o => ∃ d, o = .rt d ∧ Q d) : hol (runD np nl b ds) Q := by
 obtain ⟨o, e, d, rfl, q⟩ := h
 exact ⟨d, runD_rt hl e, q⟩
theorem for_hol {i : Nat} {b : SS → Option Out} {ds : List D} {s : SS} (I : Nat → SS → Prop) (h0 : I 0 s) (hs : ∀ n (h : n < ds.length) δ, I n δ → hol (b (δ.set i (some (.sh ds[n])))) fun o => match o with | .nx δ' => I (n + 1) δ' | .ct δ' => I (n + 1) δ' | .bk δ' => QO (.nx δ') | .rt d => QO (.rt d) | .ex c δ' => QO (.ex c δ')) (he : ∀ δ, I ds.length δ → QO (.nx δ)) : hol (forD i b ds s) QO := by
 induction ds generalizing s I with
 | nil => exact ⟨_, rfl, he _ h0⟩
 | cons x r ih =>
  obtain ⟨o, e, q⟩ := hs 0 (by simp) s h0
  have e : b (s.set i (some (.sh x))) = some o := e
  have step : ∀ s1, I 1 s1 → hol (forD i b r s1) QO := fun s1 h1 => ih (fun n => I (n + 1)) h1 (fun n hn δ hI => by
   have := hs (n + 1) (by simpa using hn) δ hI
   simpa using this) fun δ hI => he δ (by simpa using hI)
  unfold forD
  rw [e]
  cases o with
  | nx s1 => exact step s1 q
  | ct s1 => exact step s1 q
  | bk s1 => exact ⟨_, rfl, q⟩
  | rt d => exact ⟨_, rfl, q⟩
  | ex c s1 => exact ⟨_, rfl, q⟩
theorem for_rng {i : Nat} {b : SS → Option Out} {lo : Int} {m : Nat} {s : SS} (I : Nat → SS → Prop) (h0 : I 0 s) (hs : ∀ n, n < m → ∀ δ, I n δ → hol (b (δ.set i (some (.sh (.int (lo + (n : Int))))))) fun o => match o with | .nx δ' => I (n + 1) δ' | .ct δ' => I (n + 1) δ' | .bk δ' => QO (.nx δ') | .rt d => QO (.rt d) | .ex c δ' => QO (.ex c δ')) (he : ∀ δ, I m δ → QO (.nx δ)) : hol (forD i b (rngL lo m) s) QO := by
 refine for_hol I h0 (fun n hn δ hI => ?_) fun δ hI => he δ (by simpa [rngL] using hI)
 have hn' : n < m := by simpa [rngL] using hn
 have := hs n hn' δ hI
 simpa [rngL] using this
theorem for_map {α : Type} {enc : α → D} {i : Nat} {b : SS → Option Out} {xs : List α} {s : SS} (I : List α → SS → Prop) (h0 : I [] s) (hs : ∀ pre x post, xs = pre ++ x :: post → ∀ δ, I pre δ → hol (b (δ.set i (some (.sh (enc x))))) fun o => match o with | .nx δ' => I (pre ++ [x]) δ' | .ct δ' => I (pre ++ [x]) δ' | .bk δ' => QO (.nx δ') | .rt d => QO (.rt d) | .ex c δ' => QO (.ex c δ')) (he : ∀ δ, I xs δ → QO (.nx δ)) : hol (forD i b (xs.map enc) s) QO := by
 refine for_hol (fun n δ => I (xs.take n) δ) (by simpa using h0) (fun n hn δ hI => ?_) fun δ hI => he δ (by simpa using hI)
 have hn' : n < xs.length := by simpa using hn
 have e : xs = xs.take n ++ xs[n] :: xs.drop (n + 1) := by
  rw [← List.drop_eq_getElem_cons hn', List.take_append_drop]
 have := hs (xs.take n) xs[n] _ e δ hI
 rw [← List.take_succ_eq_append_getElem hn'] at this
 rw [List.getElem_map]
 exact this
end
end L2
namespace L2
open PySem
def o2 (F : D → D → Option D) : Option D → Option D → Option D
 | some x, some y => F x y
 | _, _ => none
def andO : Option D → Option D → Option D
 | some (.bl true), y => y
 | some (.bl false), _ => some (.bl false)
 | _, _ => none
def orO : Option D → Option D → Option D
 | some (.bl true), _ => some (.bl true)
 | some (.bl false), y => y
 | _, _ => none
def andT : Option Bool → Option Bool → Option Bool
 | some true, y => y
 | some false, _ => some false
 | _, _ => none
def orT : Option Bool → Option Bool → Option Bool
 | some true, _ => some true
 | some false, y => y
 | _, _ => none
def iteO {α : Type} : Option Bool → Option α → Option α → Option α
 | some true, x, _ => x
 | some false, _, y => y
 | _, _, _ => none
def consA : Option D → Option (List D) → Option (List D)
 | some x, some xs => some (x :: xs)
 | _, _ => none
def immO : Option D → Option D
 | some d => if d.imm = true then some d else none
 | none => none
def flatO : Option (List D) → Option (List D)
 | some ds => if imms ds = true then some ds else none
 | none => none
def bindO (x : Option Out) (b : SS → Option Out) : Option Out := match x with
 | some (.nx s) => b s
 | o => o
def rng1 : Option D → Option (List D)
 | some (.int j) => if -(2 ^ 62) ≤ j ∧ j < 2 ^ 62 then some (rngL 0 j.toNat) else none
 | _ => none
def rng2 : Option D → Option D → Option (List D)
 | some (.int i), some (.int j) => if -(2 ^ 62) ≤ i ∧ i < 2 ^ 62 ∧ -(2 ^ 62) ≤ j ∧ j < 2 ^ 62 then some (rngL i (j - i).toNat) else none
 | _, _ => none
def cut3 (x : Option D) (lo hi : Option (Option Int)) : Option (List D) := match x, lo, hi with
 | some (.lst ds), some l, some h => some (cutL ds l h)
 | some (.scr ns), some l, some h => some (cutL (ns.map .int) l h)
 | _, _, _ => none
def partO : Option D → Option (Option Int)
 | some (.int i) => some (some i)
 | _ => none
def setO (mk : D → SD) (i : Nat) (x : Option D) (s : SS) : Option Out := match x with
 | some d => some (.nx (s.set i (some (mk d))))
 | none => none
def rtO : Option D → Option Out
 | some d => some (.rt d)
 | none => none
def forX (i : Nat) (ds : Option (List D)) (b : SS → Option Out) (s : SS) : Option Out := match ds with
 | some ds => forD i b ds s
 | none => none
def putO (i : Nat) (x : Option D) (s : SS) : Option Out := match x with
 | some d => some (.nx ((dropBs i s).set i (some (.ow d))))
 | none => none
def compF (fc : DS → Option Bool) (fe : DE) (δ : DS) : D → Option (Option D) := fun x => (fc (δ ++ [some x])).bind fun k => if k = true then (fe (δ ++ [some x])).map some else some none
def compX (xs : Option (List D)) (h : D → Option (Option D)) : Option (List D) := match xs with
 | some xs => if xs.length ≤ sizeLine then compL h xs else none
 | none => none
section
variable {f g h : DE} {δ : DS} {s : SS} {F : D → D → Option D} {c e : DS → Option Bool} {a b : SS → Option Out} {i j : Nat}
theorem ev_var0 {x : Option D} {r : DS} : dVar 0 (x :: r) = x := ho_var0
theorem ev_varS {x : Option D} {r : DS} : dVar (i + 1) (x :: r) = dVar i r := (rfl)
theorem ev_C {d : D} : dC d δ = some d := (rfl)
theorem ev_d2 : d2 F f g δ = o2 F (f δ) (g δ) := by
 unfold d2 o2
 cases f δ <;> cases g δ <;> rfl
theorem ev_d1 {G : D → Option D} : d1 G f δ = (f δ).bind G := (rfl)
theorem ev_test : dTest f δ = (f δ).bind asB := by
 unfold dTest
 cases f δ with
 | none => rfl
 | some d => cases d <;> rfl
theorem ev_truth : dTruth f δ = (f δ).bind truthD := (rfl)
theorem ev_andT : dAndT c e δ = andT (c δ) (e δ) := by
 unfold dAndT
 rcases c δ with _ | _ | _ <;> rfl
theorem ev_orT : dOrT c e δ = orT (c δ) (e δ) := by
 unfold dOrT
 rcases c δ with _ | _ | _ <;> rfl
theorem ev_notT : dNotT c δ = (c δ).map (!·) := (rfl)
theorem ev_and : dAnd f g δ = andO (f δ) (g δ) := by
 unfold dAnd andO
 rcases f δ with _ | (_ | (_ | _) | _ | _ | _ | _ | _ | _) <;> rfl
theorem ev_or : dOr f g δ = orO (f δ) (g δ) := by
 unfold dOr orO
 rcases f δ with _ | (_ | (_ | _) | _ | _ | _ | _ | _ | _) <;> rfl
theorem ev_args0 : dArgs [] δ = some [] := (rfl)
theorem ev_argsS {r : List DE} : dArgs (f :: r) δ = consA (f δ) (dArgs r δ) := by
 show ((f δ).bind fun x => (dArgs r δ).bind fun xs => some (x :: xs)) = _
 cases f δ <;> cases dArgs r δ <;> rfl
theorem ev_call {M : List D → Option D} {fl : List DE} : dCall M fl δ = (dArgs fl δ).bind M := (rfl)
theorem ev_callL {M : List D → Option (List D)} {fl : List DE} : dCallL M fl δ = (dArgs fl δ).bind M := (rfl)
theorem ev_mkL {f : DS → Option (List D)} : mkL f δ = (f δ).map .lst := (rfl)
theorem ev_mkT {f : DS → Option (List D)} : mkT f δ = (f δ).map .tup := (rfl)
theorem ev_mkFlat {f : DS → Option (List D)} : mkFlat f δ = (flatO (f δ)).map .lst := by
 unfold mkFlat flatO
 cases f δ with
 | none => rfl
 | some ds =>
  show (if imms ds = true then _ else _) = Option.map _ (if imms ds = true then _ else _)
  split <;> rfl
theorem ev_mkImm : mkImm f δ = immO (f δ) := by
 unfold mkImm immO
 cases f δ <;> rfl
theorem ev_is {T : String} : dIs T f δ = (f δ).map fun d => .bl (isF T d) := (rfl)
theorem ev_seq : dSeq f δ = (f δ).bind seqD := (rfl)
theorem ev_rng1 : dRng1 f δ = rng1 (f δ) := (rfl)
theorem ev_rng2 : dRng2 f g δ = rng2 (f δ) (g δ) := (rfl)
theorem ev_comp {fi : DS → Option (List D)} : dComp fi c f δ = compX (fi δ) (compF c f δ) := by
 unfold dComp compX
 cases fi δ <;> rfl
theorem ev_part : dPart f δ = partO (f δ) := (rfl)
theorem ev_nopart : dNoPart δ = some none := (rfl)
theorem ev_cut {fl fh : DS → Option (Option Int)} : dCut f fl fh δ = cut3 (f δ) (fl δ) (fh δ) := by
 unfold dCut cut3
 rcases f δ with _ | (_ | _ | _ | _ | _ | _ | _ | _) <;> first | rfl | (cases fl δ <;> cases fh δ <;> rfl)
theorem ev_seqO : seqO a b s = bindO (a s) b := by
 unfold seqO bindO
 rcases a s with _ | (_ | _ | _ | _) <;> rfl
theorem ev_skip : skipO s = some (.nx s) := (rfl)
theorem ev_asgS : asgS i f s = setO .sh i (f (shV s)) s := by
 unfold asgS setO
 cases f (shV s) <;> rfl
theorem ev_asgI : asgI i f s = setO .sh i (immO (f (allV s))) s := by
 unfold asgI setO immO
 cases f (allV s) with
 | none => rfl
 | some d =>
  show (if d.imm = true then _ else _) = (match (if d.imm = true then some d else none) with | some d => some (Out.nx (s.set i (some (SD.sh d)))) | none => none)
  split <;> rfl
theorem ev_asgN : asgN i f s = setO .ow i (f (allV s)) s := by
 unfold asgN setO
 cases f (allV s) <;> rfl
theorem ev_retI : retI f s = rtO (immO (f (allV s))) := by
 unfold retI rtO immO
 cases f (allV s) with
 | none => rfl
 | some d =>
  show (if d.imm = true then _ else _) = (match (if d.imm = true then some d else none) with | some d => some (Out.rt d) | none => none)
  split <;> rfl
theorem ev_retN : retN f s = rtO (f (allV s)) := by
 unfold retN rtO
 cases f (allV s) <;> rfl
theorem ev_retS : retS f s = rtO (f (shV s)) := by
 unfold retS rtO
 cases f (shV s) <;> rfl
theorem ev_retO : retO i s = rtO (owA i s) := by
 unfold retO rtO owA
 rcases s[i]? with _ | _ | ⟨x | x | ⟨r, x⟩⟩ <;> rfl
theorem ev_ifO : ifO c a b s = iteO (c (allV s)) (a s) (b s) := by
 unfold ifO
 rcases c (allV s) with _ | _ | _ <;> rfl
theorem ev_forO {fi : DS → Option (List D)} : forO i fi b s = forX i (fi (shV s)) b s := by
 unfold forO forX
 cases fi (shV s) <;> rfl
theorem ev_frz : frzO i b s = b (frzS i s) := (rfl)
theorem eo_2 {x y : D} : o2 F (some x) (some y) = F x y := (rfl)
theorem eo_and {x y : Bool} : andO (some (.bl x)) (some (.bl y)) = some (.bl (x && y)) := by cases x <;> rfl
theorem eo_andf {y : Option D} : andO (some (.bl false)) y = some (.bl false) := (rfl)
theorem eo_or {x y : Bool} : orO (some (.bl x)) (some (.bl y)) = some (.bl (x || y)) := by cases x <;> rfl
theorem eo_ort {y : Option D} : orO (some (.bl true)) y = some (.bl true) := (rfl)
theorem eo_andT {x y : Bool} : andT (some x) (some y) = some (x && y) := by cases x <;> rfl
theorem eo_orT {x y : Bool} : orT (some x) (some y) = some (x || y) := by cases x <;> rfl
theorem eo_orTt {y : Option Bool} : orT (some true) y = some true := (rfl)
theorem eo_itet {α : Type} {x y : Option α} : iteO (some true) x y = x := (rfl)
theorem eo_itef {α : Type} {x y : Option α} : iteO (some false) x y = y := (rfl)
theorem eo_cons {x : D} {xs : List D} : consA (some x) (some xs) = some (x :: xs) := (rfl)
theorem eo_nx : bindO (some (.nx s)) b = b s := (rfl)
theorem eo_rt {d : D} : bindO (some (.rt d)) b = some (.rt d) := (rfl)
theorem eo_set {mk : D → SD} {d : D} : setO mk i (some d) s = some (.nx (s.set i (some (mk d)))) := (rfl)
theorem eo_rtO {d : D} : rtO (some d) = some (.rt d) := (rfl)
theorem eo_for {ds : List D} : forX i (some ds) b s = forD i b ds s := (rfl)
theorem eo_immI {n : Int} : immO (some (.int n)) = some (.int n) := (rfl)
theorem eo_immB {n : Bool} : immO (some (.bl n)) = some (.bl n) := (rfl)
theorem eo_immN : immO (some .non) = some .non := (rfl)
theorem eo_flat {ds : List D} (h : imms ds = true) : flatO (some ds) = some ds := if_pos h
theorem eo_part {n : Int} : partO (some (.int n)) = some (some n) := (rfl)
theorem eo_cutR {ns : List Int} {l h : Option Int} : cut3 (some (.scr ns)) (some l) (some h) = some (cutL (ns.map .int) l h) := (rfl)
theorem eo_rng1 {n : Int} (h : -(2 ^ 62) ≤ n ∧ n < 2 ^ 62) : rng1 (some (.int n)) = some (rngL 0 n.toNat) := if_pos h
theorem eo_rng2 {m n : Int} (h : -(2 ^ 62) ≤ m ∧ m < 2 ^ 62 ∧ -(2 ^ 62) ≤ n ∧ n < 2 ^ 62) : rng2 (some (.int m)) (some (.int n)) = some (rngL m (n - m).toNat) := if_pos h
theorem eo_comp {xs : List D} {k : D → Option (Option D)} (h : xs.length ≤ 1000000) : compX (some xs) k = compL k xs := if_pos (small_line h)
section
variable {m n : Int} {p q : Bool} {ds es : List D} {x y : Str} {ns : List Int}
theorem ea_add : addI (.int m) (.int n) = some (.int (m + n)) := (rfl)
theorem ea_sub : subI (.int m) (.int n) = some (.int (m - n)) := (rfl)
theorem ea_mul (h : CMul m n) : mulI (.int m) (.int n) = some (.int (m * n)) := if_pos h
theorem ea_div (h : CDiv m n) : divI (.int m) (.int n) = some (.int (m / n)) := if_pos h
theorem ea_mod (h : 0 < n) : modI (.int m) (.int n) = some (.int (m % n)) := if_pos h
theorem ea_lt : ltI (.int m) (.int n) = some (.bl (decide (m < n))) := (rfl)
theorem ea_le : leI (.int m) (.int n) = some (.bl (decide (m ≤ n))) := (rfl)
theorem ea_gt : gtI (.int m) (.int n) = some (.bl (decide (n < m))) := (rfl)
theorem ea_eqI : eqD (.int m) (.int n) = some (.bl (decide (m = n))) := (rfl)
theorem ea_neI : neD (.int m) (.int n) = some (.bl (!decide (m = n))) := (rfl)
theorem ea_not : uNot (.bl p) = some (.bl (!p)) := (rfl)
theorem ea_truB : truthD (.bl p) = some p := (rfl)
theorem ea_seqL : seqD (.lst ds) = some ds := (rfl)
theorem ea_lenL : lenF [.lst ds] = some (.int (ds.length : Int)) := (rfl)
theorem ea_lenR : lenF [.scr ns] = some (.int (ns.length : Int)) := (rfl)
theorem ea_ixL : ixD (.lst ds) (.int m) = atI ds m := (rfl)
theorem ea_ixR : ixD (.scr ns) (.int m) = (atI ns m).map .int := (rfl)
theorem ea_isBI : isF "bool" (.int m) = false := (rfl)
theorem ea_isII : isF "int" (.int m) = true := (rfl)
theorem ea_asB : asB (.bl p) = some p := (rfl)
end
theorem eb_bs {α β : Type} {a : α} {k : α → Option β} : (some a).bind k = k a := (rfl)
theorem eb_ms {α β : Type} {a : α} {k : α → β} : (some a).map k = some (k a) := (rfl)
theorem eb_mn {α β : Type} {k : α → β} : (none : Option α).map k = none := (rfl)
theorem eb_s0 {α : Type} {x y : α} {r : List α} : (x :: r).set 0 y = y :: r := (rfl)
theorem eb_sS {α : Type} {n : Nat} {x y : α} {r : List α} : (x :: r).set (n + 1) y = x :: r.set n y := (rfl)
theorem eb_mc {α β : Type} {x : α} {r : List α} {k : α → β} : (x :: r).map k = k x :: r.map k := (rfl)
theorem eb_mnil {α β : Type} {k : α → β} : ([] : List α).map k = [] := (rfl)
theorem eb_rS {α : Type} {n : Nat} {x : α} : List.replicate (n + 1) x = x :: List.replicate n x := (rfl)
theorem eb_r0 {α : Type} {x : α} : List.replicate 0 x = [] := (rfl)
theorem eb_ca {α : Type} {x : α} {r t : List α} : (x :: r) ++ t = x :: (r ++ t) := (rfl)
theorem eb_na {α : Type} {t : List α} : [] ++ t = t := (rfl)
theorem es_all0 : allV [] = [] := (rfl)
theorem es_allS {x : Option SD} {r : SS} : allV (x :: r) = x.map SD.val :: allV r := (rfl)
theorem es_sh0 : shV [] = [] := (rfl)
theorem es_shS {x : Option SD} {r : SS} : shV (x :: r) = shO x :: shV r := (rfl)
theorem es_shO {d : D} : shO (some (.sh d)) = some d := (rfl)
theorem es_drop0 : dropBs i [] = [] := (rfl)
theorem es_dropS {x : Option SD} {r : SS} : dropBs i (x :: r) = dropB i x :: dropBs i r := (rfl)
theorem es_dropSh {d : D} : dropB i (some (.sh d)) = some (.sh d) := (rfl)
theorem es_dropOw {d : D} : dropB i (some (.ow d)) = some (.ow d) := (rfl)
theorem es_dropN : dropB i none = none := (rfl)
theorem es_ow0 {d : D} {r : SS} : owA 0 (some (.ow d) :: r) = some d := (rfl)
theorem es_owS {x : Option SD} {r : SS} : owA (i + 1) (x :: r) = owA i r := (rfl)
end
end L2
namespace L2
open PySem
def immsO : Option (List D) → Option (List D) := flatO
def st0V (o k v : Option D) : Option D := match o, k, v with
 | some (.lst ds), some (.int k), some d => (ixN ds.length k).map fun j => .lst (ds.set j d)
 | _, _, _ => none
def st1V (o k j v : Option D) : Option D := match o, k, j, v with
 | some (.lst ds), some (.int k), some (.int j), some d => (ixN ds.length k).bind fun k' => (match ds[k']? with
  | some (.lst es) => if imms es = true then (ixN es.length j).map fun j' => .lst (ds.set k' (.lst (es.set j' d))) else none
  | _ => none)
 | _, _, _, _ => none
def m0V (M : List D → List D → Option (List D)) (o : Option D) (args : Option (List D)) : Option D := match o, args with
 | some (.lst ds), some args => (M ds args).map .lst
 | _, _ => none
def m1V (M : List D → List D → Option (List D)) (o k : Option D) (args : Option (List D)) : Option D := match o, k, args with
 | some (.lst ds), some (.int k), some args => (ixN ds.length k).bind fun j => (match ds[j]? with
  | some (.lst es) => if imms es = true then (flatO (M es args)).map fun es' => .lst (ds.set j (.lst es')) else none
  | _ => none)
 | _, _, _ => none
section
variable {f g fk fj fv : DE} {s : SS} {i : Nat} {M : List D → List D → Option (List D)} {fl : List DE}
theorem eo_put {d : D} : putO i (some d) s = some (.nx ((dropBs i s).set i (some (.ow d)))) := (rfl)
theorem eo_immsO {ds : List D} (h : imms ds = true) : immsO (some ds) = some ds := if_pos h
def kI : D → Option Int
 | .int k => some k
 | _ => none
def kL : D → Option (List D)
 | .lst ds => some ds
 | _ => none
def kW : Option (Option SD) → Option D
 | some (some (.ow d)) => some d
 | _ => none
theorem owA_kW : owA i s = kW s[i]? := by
 unfold owA kW
 generalize s[i]? = x
 rcases x with _ | _ | ⟨x | x | ⟨r, x⟩⟩ <;> rfl
theorem mt2 {β : Type} {k : D} {x : Option (Option SD)} {F : Int → List D → Option β} : (match k, x with | .int k, some (some (.ow (.lst ds))) => F k ds | _, _ => none) = (kI k).bind fun k => ((kW x).bind kL).bind fun ds => F k ds := by
 cases k with
 | int k => rcases x with _ | _ | ⟨x | x | ⟨r, x⟩⟩ <;> first | rfl | (cases x <;> rfl)
 | _ => rfl
theorem mt3 {β : Type} {k j : D} {x : Option (Option SD)} {F : Int → Int → List D → Option β} : (match k, j, x with | .int k, .int j, some (some (.ow (.lst ds))) => F k j ds | _, _, _ => none) = (kI k).bind fun k => (kI j).bind fun j => ((kW x).bind kL).bind fun ds => F k j ds := by
 cases k with
 | int k =>
  cases j with
  | int j => rcases x with _ | _ | ⟨x | x | ⟨r, x⟩⟩ <;> first | rfl | (cases x <;> rfl)
  | _ => rfl
 | _ => rfl
theorem st0V_k {o k v : Option D} : st0V o k v = (o.bind kL).bind fun ds => (k.bind kI).bind fun k => v.bind fun d => (ixN ds.length k).map fun j => .lst (ds.set j d) := by
 rcases o with _ | o
 ·rfl
 ·cases o with
  | lst ds =>
   rcases k with _ | k
   ·rfl
   ·cases k with
    | int k => cases v <;> rfl
    | _ => rfl
  | _ => rfl
theorem st1V_k {o k j v : Option D} : st1V o k j v = (o.bind kL).bind fun ds => (k.bind kI).bind fun k => (j.bind kI).bind fun j => v.bind fun d => (ixN ds.length k).bind fun k' => (match ds[k']? with
  | some (.lst es) => if imms es = true then (ixN es.length j).map fun j' => .lst (ds.set k' (.lst (es.set j' d))) else none
  | _ => none) := by
 rcases o with _ | o
 ·rfl
 ·cases o with
  | lst ds =>
   rcases k with _ | k
   ·rfl
   ·cases k with
    | int k =>
     rcases j with _ | j
     ·rfl
     ·cases j with
      | int j => cases v <;> rfl
      | _ => rfl
    | _ => rfl
  | _ => rfl
theorem putO_b {α : Type} {x : Option α} {F : α → Option D} : putO i (x.bind F) s = x.bind fun a => putO i (F a) s := by cases x <;> rfl
theorem bind_no {α β : Type} {x : Option α} : (x.bind fun _ => (none : Option β)) = none := by cases x <;> rfl
theorem ev_st0 : st0 i fk fv s = putO i (st0V (owA i s) (fk (allV s)) (immO (fv (allV s)))) s := by
 have e : st0 i fk fv s = (fv (allV s)).bind fun d => if d.imm = true then (fk (allV s)).bind fun dk => (kI dk).bind fun k => ((kW s[i]?).bind kL).bind fun ds => (ixN ds.length k).map fun j => .nx ((dropBs i s).set i (some (.ow (.lst (ds.set j d))))) else none := by
  refine congrArg (Option.bind (fv (allV s))) (funext fun d => ?_)
  refine congrArg (fun z => if d.imm = true then z else none) ?_
  refine congrArg (Option.bind (fk (allV s))) (funext fun dk => ?_)
  exact mt2 (F := fun k ds => (ixN ds.length k).map fun j => Out.nx ((dropBs i s).set i (some (.ow (.lst (ds.set j d))))))
 rw [e, st0V_k, owA_kW]
 simp only [putO_b]
 generalize (kW s[i]?).bind kL = x
 rcases fv (allV s) with _ | d
 ·show none = x.bind fun ds => ((fk (allV s)).bind kI).bind fun k => (none : Option Out)
  simp only [bind_no]
 ·show (if d.imm = true then (fk (allV s)).bind fun dk => _ else none) = x.bind fun ds => ((fk (allV s)).bind kI).bind fun k => (if d.imm = true then some d else none).bind fun d => _
  split
  ·rcases fk (allV s) with _ | k
   ·simp only [Option.bind_none, bind_no]
   ·simp only [Option.bind_some]
    cases kI k with
    | none => simp only [Option.bind_none, bind_no]
    | some k =>
     simp only [Option.bind_some]
     cases x with
     | none => rfl
     | some ds =>
      simp only [Option.bind_some]
      cases ixN ds.length k <;> rfl
  ·simp only [Option.bind_none, bind_no]
theorem m_st1 {k j : Int} {d : D} {ds : List D} : ((ixN ds.length k).bind fun k' => (match ds[k']? with
   | some (.lst es) => if imms es = true then (ixN es.length j).map fun j' => Out.nx ((dropBs i s).set i (some (.ow (.lst (ds.set k' (.lst (es.set j' d))))))) else none
   | _ => none)) = putO i (st1V (some (.lst ds)) (some (.int k)) (some (.int j)) (some d)) s := by
 show _ = putO i ((ixN ds.length k).bind _) s
 cases ixN ds.length k with
 | none => rfl
 | some k' =>
  rw [Option.bind_some, Option.bind_some]
  cases ds[k']? with
  | none => rfl
  | some y =>
   cases y with
   | lst es =>
    dsimp only
    split
    ·cases ixN es.length j <;> rfl
    ·rfl
   | _ => rfl
theorem ev_st1 : st1 i fk fj fv s = putO i (st1V (owA i s) (fk (allV s)) (fj (allV s)) (immO (fv (allV s)))) s := by
 have e : st1 i fk fj fv s = (fv (allV s)).bind fun d => if d.imm = true then (fk (allV s)).bind fun dk => (fj (allV s)).bind fun dj => (kI dk).bind fun k => (kI dj).bind fun j => ((kW s[i]?).bind kL).bind fun ds => (ixN ds.length k).bind fun k' => (match ds[k']? with
   | some (.lst es) => if imms es = true then (ixN es.length j).map fun j' => .nx ((dropBs i s).set i (some (.ow (.lst (ds.set k' (.lst (es.set j' d))))))) else none
   | _ => none) else none := by
  refine congrArg (Option.bind (fv (allV s))) (funext fun d => ?_)
  refine congrArg (fun z => if d.imm = true then z else none) ?_
  refine congrArg (Option.bind (fk (allV s))) (funext fun dk => ?_)
  refine congrArg (Option.bind (fj (allV s))) (funext fun dj => ?_)
  exact mt3 (F := fun k j ds => (ixN ds.length k).bind fun k' => (match ds[k']? with
   | some (.lst es) => if imms es = true then (ixN es.length j).map fun j' => Out.nx ((dropBs i s).set i (some (.ow (.lst (ds.set k' (.lst (es.set j' d))))))) else none
   | _ => none))
 rw [e, st1V_k, owA_kW]
 simp only [putO_b]
 generalize (kW s[i]?).bind kL = x
 rcases fv (allV s) with _ | d
 ·show none = x.bind fun ds => ((fk (allV s)).bind kI).bind fun k => ((fj (allV s)).bind kI).bind fun j => (none : Option Out)
  simp only [bind_no]
 ·show (if d.imm = true then (fk (allV s)).bind fun dk => _ else none) = x.bind fun ds => ((fk (allV s)).bind kI).bind fun k => ((fj (allV s)).bind kI).bind fun j => (if d.imm = true then some d else none).bind fun d => _
  split
  ·rcases fk (allV s) with _ | k
   ·simp only [Option.bind_none, bind_no]
   ·simp only [Option.bind_some]
    rcases fj (allV s) with _ | j
    ·simp only [Option.bind_none, bind_no]
    ·simp only [Option.bind_some]
     cases kI k with
     | none => simp only [Option.bind_none, bind_no]
     | some k =>
      cases kI j with
      | none => simp only [Option.bind_none, Option.bind_some, bind_no]
      | some j =>
       simp only [Option.bind_some]
       cases x with
       | none => rfl
       | some ds =>
        have := m_st1 (i := i) (s := s) (k := k) (j := j) (d := d) (ds := ds)
        rw [st1V_k] at this
        simp only [Option.bind_some, putO_b, kL, kI] at this
        simp only [Option.bind_some]
        exact this
  ·simp only [Option.bind_none, bind_no]
theorem ev_m0 : m0 i M fl s = putO i (m0V M (owA i s) (immsO (dArgs fl (allV s)))) s := by
 unfold m0 owA
 rcases dArgs fl (allV s) with _ | args
 ·rcases s[i]? with _ | _ | ⟨x | x | ⟨r, x⟩⟩ <;> (first | rfl | (cases x <;> rfl))
 ·show (if imms args = true then _ else _) = putO i (m0V M _ (if imms args = true then some args else none)) s
  split
  ·rcases s[i]? with _ | _ | ⟨x | x | ⟨r, x⟩⟩ <;> (first | rfl | (cases x <;> first | rfl | (rename_i ds; show Option.map _ (M ds args) = putO i (Option.map _ (M ds args)) s; cases M ds args <;> rfl)))
  ·rcases s[i]? with _ | _ | ⟨x | x | ⟨r, x⟩⟩ <;> (first | rfl | (cases x <;> rfl))
theorem m_m1 {k : Int} {ds args : List D} : ((ixN ds.length k).bind fun j => (match ds[j]? with
   | some (.lst es) => if imms es = true then (M es args).bind fun es' => if imms es' = true then some (Out.nx ((dropBs i s).set i (some (.ow (.lst (ds.set j (.lst es'))))))) else none else none
   | _ => none)) = putO i (m1V M (some (.lst ds)) (some (.int k)) (some args)) s := by
 show _ = putO i ((ixN ds.length k).bind _) s
 cases ixN ds.length k with
 | none => rfl
 | some k' =>
  rw [Option.bind_some, Option.bind_some]
  cases ds[k']? with
  | none => rfl
  | some y =>
   cases y with
   | lst es =>
    dsimp only
    split
    ·cases M es args with
     | none => rfl
     | some es' =>
      show (if imms es' = true then _ else _) = putO i (Option.map _ (if imms es' = true then _ else _)) s
      split <;> rfl
    ·rfl
   | _ => rfl
theorem ev_m1 : m1 i fk M fl s = putO i (m1V M (owA i s) (fk (allV s)) (immsO (dArgs fl (allV s)))) s := by
 unfold m1 owA
 rcases dArgs fl (allV s) with _ | args
 ·rcases fk (allV s) with _ | (_ | _ | _ | _ | _ | _ | _ | _) <;> rcases s[i]? with _ | _ | ⟨x | x | ⟨r, x⟩⟩ <;> (first | rfl | (cases x <;> rfl))
 ·show _ = putO i (m1V M _ _ (if imms args = true then some args else none)) s
  by_cases h : imms args = true
  ·rw [if_pos h]
   rcases fk (allV s) with _ | (_ | _ | k | _ | _ | _ | _ | _) <;> rcases s[i]? with _ | _ | ⟨x | x | ⟨r, x⟩⟩ <;> (first | rfl | (cases x <;> first | rfl | exact (if_pos h).trans m_m1 | exact if_pos h) | exact if_pos h)
  ·rw [if_neg h]
   rcases fk (allV s) with _ | (_ | _ | k | _ | _ | _ | _ | _) <;> rcases s[i]? with _ | _ | ⟨x | x | ⟨r, x⟩⟩ <;> (first | rfl | (cases x <;> first | rfl | exact if_neg h) | exact if_neg h)
theorem ev_app0N : app0N i f s = putO i (m0V appF (owA i s) (consA (f (allV s)) (some []))) s := by
 unfold app0N owA
 rcases f (allV s) with _ | d
 ·rcases s[i]? with _ | _ | ⟨x | x | ⟨r, x⟩⟩ <;> (first | rfl | (cases x <;> rfl))
 ·rcases s[i]? with _ | _ | ⟨x | x | ⟨r, x⟩⟩ <;> (first | rfl | (cases x <;> first | rfl | (rename_i ds; show Option.map _ (appF ds [d]) = putO i (Option.map _ (appF ds [d])) s; cases appF ds [d] <;> rfl)))
theorem ev_ins0N : ins0N i f g s = putO i (m0V insF (owA i s) (consA (immO (f (allV s))) (consA (g (allV s)) (some [])))) s := by
 unfold ins0N owA
 rcases f (allV s) with _ | k
 ·rcases s[i]? with _ | _ | ⟨x | x | ⟨r, x⟩⟩ <;> (first | rfl | (cases x <;> rfl))
 ·show (if k.imm = true then _ else _) = putO i (m0V insF _ (consA (if k.imm = true then some k else none) _)) s
  split
  ·rcases g (allV s) with _ | d
   ·rcases s[i]? with _ | _ | ⟨x | x | ⟨r, x⟩⟩ <;> (first | rfl | (cases x <;> rfl))
   ·rcases s[i]? with _ | _ | ⟨x | x | ⟨r, x⟩⟩ <;> (first | rfl | (cases x <;> first | rfl | (rename_i ds; show Option.map _ (insF ds [k, d]) = putO i (Option.map _ (insF ds [k, d])) s; cases insF ds [k, d] <;> rfl)))
  ·rcases s[i]? with _ | _ | ⟨x | x | ⟨r, x⟩⟩ <;> (first | rfl | (cases x <;> rfl))
end
theorem es_v1 {d : D} : (SD.sh d).val = d := (rfl)
theorem es_v2 {d : D} : (SD.ow d).val = d := (rfl)
theorem ea_all {bs : List Bool} : allF [.lst (bs.map bD)] = some (.bl (bs.all fun b => b)) := by
 show (bools (bs.map bD)).map (fun bs => D.bl (bs.all fun b => b)) = _
 rw [bools_map]
 rfl
theorem ea_any {bs : List Bool} : anyF [.lst (bs.map bD)] = some (.bl (bs.any fun b => b)) := by
 show (bools (bs.map bD)).map (fun bs => D.bl (bs.any fun b => b)) = _
 rw [bools_map]
 rfl
theorem st1_tabV {T : List (List Bool)} {a b : Nat} {v : Bool} (ha : a < T.length) (hb : b < T[a].length) : st1V (some (tabD T)) (some (.int (a : Int))) (some (.int (b : Int))) (some (.bl v)) = some (tabD (T.set a (T[a].set b v))) := by
 show ((ixN (T.map rowD).length (a : Int)).bind fun k' => (match (T.map rowD)[k']? with
  | some (.lst es) => if imms es = true then (ixN es.length (b : Int)).map fun j' => D.lst ((T.map rowD).set k' (.lst (es.set j' (.bl v)))) else none
  | _ => none)) = _
 rw [ixN_nat (by simpa using ha), Option.bind_some]
 have e1 : (T.map rowD)[a]? = some (.lst (T[a].map bD)) := by rw [List.getElem?_map, List.getElem?_eq_getElem ha]; rfl
 rw [e1]
 dsimp only
 rw [if_pos (imms_map_bD _), ixN_nat (by simpa using hb), Option.map_some]
 unfold tabD
 rw [List.map_set]
 unfold rowD
 rw [List.map_set]
 rfl
theorem erase_map {α β : Type} {f : α → β} : ∀ {xs : List α} {i : Nat}, (xs.map f).eraseIdx i = (xs.eraseIdx i).map f
 | [], _ => rfl
 | _ :: _, 0 => rfl
 | x :: r, i + 1 => congrArg (f x :: ·) (erase_map (xs := r) (i := i))
theorem cut_ints (ns : List Int) (lo hi : Option Int) : ∃ cs : List Int, cutL (ns.map .int) lo hi = cs.map .int ∧ cs.length ≤ ns.length := by
 refine ⟨(ns.drop (HT.sIx ns.length 0 lo)).take (HT.sIx ns.length ns.length hi - HT.sIx ns.length 0 lo), ?_, by simp; omega⟩
 unfold cutL
 rw [List.length_map, List.map_take, List.map_drop]
theorem len_tab {T : List (List Bool)} : lenF [tabD T] = some (.int (T.length : Int)) := by
 show some (D.int ((T.map rowD).length : Nat)) = _
 rw [List.length_map]
theorem ix_tab {T : List (List Bool)} {k : Nat} (h : k < T.length) : ixD (tabD T) (.int (k : Int)) = some (rowD T[k]) := tab_ix h
theorem ix_row {r : List Bool} {k : Nat} (h : k < r.length) : ixD (rowD r) (.int (k : Int)) = some (.bl r[k]) := row_ix h
theorem ins_at {n b : Nat} (h : b ≤ n) : insK n (b : Int) = b := by
 unfold insK
 rw [if_neg (by omega), Int.toNat_natCast, Nat.min_eq_left h]
theorem mod_nat {x : Int} {n : Nat} (h : 0 < n) : ∃ a : Nat, x % (n : Int) = (a : Int) ∧ a < n := by
 have h1 := Int.emod_nonneg x (show (n : Int) ≠ 0 by omega)
 have h2 := Int.emod_lt_of_pos x (show (0 : Int) < n by omega)
 exact ⟨(x % (n : Int)).toNat, by omega, by omega⟩
theorem comp_of {α : Type} {enc : α → D} {c : DS → Option Bool} {f : DE} {δ : DS} (p : α → Bool) (g : α → D) : ∀ {xs : List α}, (∀ x ∈ xs, c (δ ++ [some (enc x)]) = some (p x)) → (∀ x ∈ xs, p x = true → f (δ ++ [some (enc x)]) = some (g x)) → compL (compF c f δ) (xs.map enc) = some ((xs.filter p).map g)
 | [], _, _ => rfl
 | x :: r, hc, hf => by
  have ih := comp_of (xs := r) p g (fun y hy => hc y (List.mem_cons_of_mem _ hy)) fun y hy => hf y (List.mem_cons_of_mem _ hy)
  rw [List.map_cons]
  unfold compL
  rw [ih]
  unfold compF
  rw [hc x List.mem_cons_self]
  cases hp : p x with
  | true =>
   show ((if true = true then (f (δ ++ [some (enc x)])).map some else some none).bind _) = _
   rw [if_pos rfl, hf x List.mem_cons_self hp, List.filter_cons_of_pos hp]
   rfl
  | false =>
   rw [List.filter_cons_of_neg (by rw [hp]; exact Bool.false_ne_true)]
   rfl
theorem comp_ofAll {α : Type} {enc : α → D} {f : DE} {δ : DS} (g : α → D) {xs : List α} (hf : ∀ x ∈ xs, f (δ ++ [some (enc x)]) = some (g x)) : compL (compF dYes f δ) (xs.map enc) = some (xs.map g) := by
 rw [comp_of (fun _ => true) g (fun _ _ => rfl) fun x hx _ => hf x hx, List.filter_eq_self.mpr fun _ _ => rfl]
def nD (n : Nat) : D := .int (n : Int)
theorem rng_nat {n : Nat} : rngL 0 n = (List.range n).map nD := by
 unfold rngL nD
 refine List.map_congr_left fun k _ => ?_
 rw [Int.zero_add]
theorem at_nat {α : Type} {xs : List α} {k : Nat} (h : k < xs.length) : atI xs (k : Int) = some xs[k] := atI_nat (List.getElem?_eq_getElem h)
theorem ixN_of {n k : Nat} (h : k < n) : ixN n (k : Int) = some k := ixN_nat h
end L2
namespace L2
open PySem
def smallO : Option (List D) → Option (List D)
 | some ds => if ds.length ≤ sizeLine then some ds else none
 | none => none
theorem ev_small {g : DS → Option (List D)} {δ : DS} : dSmall g δ = smallO (g δ) := by
 unfold dSmall smallO
 cases g δ <;> rfl
theorem eo_small {ds : List D} (h : ds.length ≤ 1000000) : smallO (some ds) = some ds := if_pos (small_line h)
theorem imms_int : ∀ o : List Int, imms (o.map D.int) = true
 | [] => rfl
 | n :: o => by
  show (true && imms (o.map D.int)) = true
  rw [imms_int o]
  rfl
theorem lay_ints : ∀ o : List Int, PyData.canLayAll0 (toPs (o.map D.int)) = true
 | [] => rfl
 | n :: o => by
  show (true && PyData.canLayAll0 (toPs (o.map D.int))) = true
  rw [lay_ints o]
  rfl
theorem dep_ints : ∀ o : List Int, PyData.depthAll (toPs (o.map D.int)) = 0
 | [] => rfl
 | n :: o => by
  show max 0 (PyData.depthAll (toPs (o.map D.int))) = 0
  rw [dep_ints o]
  rfl
theorem hol_bindO {x : Option Out} {b : SS → Option Out} {I : SS → Prop} {Q : Out → Prop} (h : hol x fun o => ∃ s, o = .nx s ∧ I s) (k : ∀ s, I s → hol (b s) Q) : hol (bindO x b) Q := by
 obtain ⟨o, rfl, s, rfl, q⟩ := h
 exact k s q
def rngI (m : Nat) : List Int := (List.range m).map fun k => ((k : Nat) : Int)
structure Good (m : Nat) (b : Int × List Int) : Prop where
 lo : 1 ≤ b.1
 hi : b.1 ≤ 10 ^ 30
 perm : b.2.Perm (rngI m)
end L2
namespace L2
open PySem
def at2 (T : List (List Bool)) (i j : Nat) : Bool := (T.getD i []).getD j false
def thD (th : List Nat) : D := .lst (th.map nD)
theorem ix_tab' {T : List (List Bool)} {i : Nat} (h : i < T.length) : ixD (tabD T) (.int (i : Int)) = some (rowD (T.getD i [])) := by
 rw [ix_tab h]
 simp [List.getD, List.getElem?_eq_getElem h]
theorem ix_row' {r : List Bool} {j : Nat} (h : j < r.length) : ixD (rowD r) (.int (j : Int)) = some (.bl (r.getD j false)) := by
 rw [ix_row h]
 simp [List.getD, List.getElem?_eq_getElem h]
theorem Sq.len {n : Nat} {T : List (List Bool)} (h : Sq n T) {i : Nat} (hi : i < n) : (T.getD i []).length = n := by
 have h1 : i < T.length := by rw [h.1]; exact hi
 have : T.getD i [] = T[i] := by simp [List.getD, List.getElem?_eq_getElem h1]
 rw [this]
 exact h.row h1
theorem ix2 {n : Nat} {T : List (List Bool)} (h : Sq n T) {i j : Nat} (hi : i < n) (hj : j < n) : o2 ixD (ixD (tabD T) (.int (i : Int))) (some (.int (j : Int))) = some (.bl (at2 T i j)) := by
 rw [ix_tab' (by rw [h.1]; exact hi), eo_2, ix_row' (by rw [h.len hi]; exact hj)]
 rfl
def gridT (th : List Nat) (f : Nat → Nat → Bool) : List (List Bool) := th.map fun i => th.map fun j => f i j
theorem getD_map {α β : Type} {f : α → β} {xs : List α} {i : Nat} {d : β} (h : i < xs.length) : (xs.map f).getD i d = f xs[i] := by
 simp [List.getD, h]
theorem seq_th {th : List Nat} : seqD (thD th) = some (th.map nD) := (rfl)
theorem len_th {th : List Nat} : lenF [thD th] = some (.int (th.length : Int)) := by
 show some (D.int ((th.map nD).length : Nat)) = _
 rw [List.length_map]
theorem imms_n : ∀ th : List Nat, imms (th.map nD) = true
 | [] => rfl
 | n :: th => by
  show (true && imms (th.map nD)) = true
  rw [imms_n th]
  rfl
theorem okP_th (th : List Nat) : okP (thD th) = true := by
 have e : th.map nD = (th.map fun n => ((n : Nat) : Int)).map D.int := by rw [List.map_map]; rfl
 unfold okP thD
 rw [e, Bool.and_eq_true, decide_eq_true_eq]
 refine ⟨lay_ints _, ?_⟩
 show PyData.depthAll (toPs ((th.map fun n => ((n : Nat) : Int)).map D.int)) + 1 ≤ 60
 rw [dep_ints]
 decide
theorem ne_self {d : D} (h : okP d = true) : neD d d = some (.bl false) := by
 unfold neD
 rw [h]
 show (if (true && true) = true then some (D.bl (!PyData.eqv (toP d) (toP d))) else none) = _
 rw [if_pos (show (true && true) = true from rfl), SeqAt.eqv_refl _ (okP_get h).1]
 rfl
theorem ev_enum {f : DE} {δ : DS} : dEnum f δ = (f δ).bind enumS := (rfl)
end L2
namespace L2
open PySem
def chO (F G : D → D → Option D) (x y z : Option D) : Option D := match x, y with
 | some x, some y => match F x y with
  | some (.bl true) => z.bind fun z => G y z
  | some (.bl false) => some (.bl false)
  | _ => none
 | _, _ => none
theorem ev_chain {F G : D → D → Option D} {f g h : DE} {δ : DS} : dChain F G f g h δ = chO F G (f δ) (g δ) (h δ) := by
 unfold dChain chO
 cases f δ <;> cases g δ <;> rfl
theorem eo_chain {F G : D → D → Option D} {x y z : D} {b c : Bool} (h1 : F x y = some (.bl b)) (h2 : G y z = some (.bl c)) : chO F G (some x) (some y) (some z) = some (.bl (b && c)) := by
 show (match F x y with
  | some (.bl true) => (some z).bind fun z => G y z
  | some (.bl false) => some (.bl false)
  | _ => none) = _
 rw [h1]
 cases b with
 | true => exact h2
 | false => rfl
def inO : Option D → Option D → Option Bool
 | some x, some y => inK x y
 | _, _ => none
theorem ev_din' {f g : DE} {δ : DS} : dDIn f g δ = inO (f δ) (g δ) := by
 unfold dDIn inO
 cases f δ <;> cases g δ <;> rfl
theorem eo_in {x y : D} : inO (some x) (some y) = inK x y := (rfl)
def dputV (o k v : Option D) : Option D := match o, k, v with
 | some (.dct ks ds), some dk, some d => (keyD dk).bind fun k => if imms ds = true ∧ ks.length < sizeLine then some (.dct (putKs ks k) (putDs ks ds k d)) else none
 | _, _, _ => none
theorem m_dput {i : Nat} {s : SS} {dk d : D} {ks : List Key} {ds : List D} : (match keyD dk, (some (some (SD.ow (.dct ks ds))) : Option (Option SD)) with
   | some k, some (some (.ow (.dct ks ds))) => if imms ds = true ∧ ks.length < sizeLine then some (Out.nx ((dropBs i s).set i (some (.ow (.dct (putKs ks k) (putDs ks ds k d)))))) else none
   | _, _ => none) = putO i (dputV (some (.dct ks ds)) (some dk) (some d)) s := by
 show _ = putO i ((keyD dk).bind _) s
 cases keyD dk with
 | none => rfl
 | some k =>
  show (if imms ds = true ∧ ks.length < sizeLine then _ else _) = putO i (if imms ds = true ∧ ks.length < sizeLine then _ else _) s
  split <;> rfl
theorem ev_dput {i : Nat} {fk fv : DE} {s : SS} : dput i fk fv s = putO i (dputV (owA i s) (fk (allV s)) (immO (fv (allV s)))) s := by
 unfold dput owA
 rcases fv (allV s) with _ | d
 ·rcases fk (allV s) with _ | dk <;> rcases s[i]? with _ | _ | ⟨x | x | ⟨r, x⟩⟩ <;> (first | rfl | (cases x <;> rfl))
 ·show (if d.imm = true then _ else _) = putO i (dputV _ _ (if d.imm = true then some d else none)) s
  split
  ·rcases fk (allV s) with _ | dk
   ·rcases s[i]? with _ | _ | ⟨x | x | ⟨r, x⟩⟩ <;> (first | rfl | (cases x <;> rfl))
   ·rw [Option.bind_some]
    rcases s[i]? with _ | _ | ⟨x | x | ⟨r, x⟩⟩
    ·cases keyD dk <;> rfl
    ·cases keyD dk <;> rfl
    ·cases keyD dk <;> rfl
    ·cases x with
     | dct ks ds => exact m_dput
     | _ => (cases keyD dk <;> rfl)
    ·cases keyD dk <;> rfl
  ·rcases fk (allV s) with _ | dk <;> rcases s[i]? with _ | _ | ⟨x | x | ⟨r, x⟩⟩ <;> (first | rfl | (cases x <;> rfl))
def catO : Option D → Option D → Option (List D)
 | some x, some y => catLs x y
 | _, _ => none
theorem ev_cat {f g : DE} {δ : DS} : dCat f g δ = catO (f δ) (g δ) := by
 unfold dCat catO
 cases f δ <;> cases g δ <;> rfl
theorem eo_cat {ds es : List D} (h : ds.length + es.length ≤ 1000000) : catO (some (.lst ds)) (some (.lst es)) = some (ds ++ es) := if_pos (small_line h)
theorem es_frz0 {d : D} {r : SS} : frzS 0 (some (.ow d) :: r) = some (.sh d) :: r := (rfl)
theorem es_frzS {i : Nat} {x : Option SD} {r : SS} : frzS (i + 1) (x :: r) = x :: frzS i r := by
 unfold frzS
 rw [List.getElem?_cons_succ]
 rcases r[i]? with _ | _ | ⟨y | y | ⟨q, y⟩⟩ <;> rfl
def toldD (p : List Int) : D := .dct (p.map Sum.inl) (p.map fun _ => .bl true)
theorem told_in {p : List Int} {x : Int} (h : x ∉ p) : inK (.int x) (toldD p) = some false := by
 show some (hasK (p.map Sum.inl) (.inl x)) = _
 congr 1
 unfold hasK
 rw [List.any_map, List.any_eq_false]
 intro y hy z
 have : (Sum.inl y : Key) = Sum.inl x := of_decide_eq_true z
 cases this
 exact h hy
theorem imms_true : ∀ p : List Int, imms (p.map fun _ => D.bl true) = true
 | [] => rfl
 | _ :: p => by
  show (true && imms (p.map fun _ => D.bl true)) = true
  rw [imms_true p]
  rfl
theorem told_put {p : List Int} {x : Int} (h : x ∉ p) (hl : p.length ≤ 1000000) : dputV (some (toldD p)) (some (.int x)) (some (.bl true)) = some (toldD (p ++ [x])) := by
 show (if imms (p.map fun _ => D.bl true) = true ∧ (p.map (Sum.inl : Int → Key)).length < sizeLine then _ else _) = _
 rw [if_pos ⟨imms_true p, by rw [List.length_map, PySem.sizeLine_eq]; omega⟩]
 have hh : hasK (p.map Sum.inl) (.inl x) = false := by
  have := told_in h
  exact Option.some.inj this
 unfold putKs putDs toldD
 rw [hh, if_neg Bool.false_ne_true, if_neg Bool.false_ne_true, List.map_append, List.map_append]
 rfl
theorem rngI_mem {m : Nat} {x : Int} (h : x ∈ rngI m) : 0 ≤ x ∧ x < (m : Int) := by
 obtain ⟨k, hk, rfl⟩ := List.mem_map.mp h
 have := List.mem_range.mp hk
 omega
theorem rngI_nodup {m : Nat} : (rngI m).Nodup := by
 unfold rngI
 rw [List.nodup_iff_pairwise_ne, List.pairwise_map]
 refine List.Pairwise.imp ?_ (List.nodup_iff_pairwise_ne.mp List.nodup_range)
 intro a b h z
 exact h (by omega)
end L2
namespace Prg
open PySem L2
def extV (o x : Option D) : Option D := match x, o with
 | some (.lst es), some (.lst ds) => if ds.length + es.length ≤ sizeLine then some (.lst (ds ++ es)) else none
 | _, _ => none
theorem ints_int : ∀ ns : List Int, ints' (ns.map .int) = some ns
 | [] => rfl
 | n :: ns => by
  rw [List.map_cons]
  unfold ints'
  rw [ints_int ns]
  rfl
theorem ea_sortL {ns : List Int} (h : ns.length < 64) : sortF [.lst (ns.map .int)] = some ((srtI ns).map .int) := by
 show ((ints' (ns.map .int)).bind fun ns => if ns.length < 64 then some ((srtI ns).map D.int) else none) = _
 rw [ints_int, Option.bind_some, if_pos h]
def sm (f : Nat → Nat) : Nat → Nat
 | 0 => 0
 | n + 1 => sm f n + f n
end Prg
namespace L2
open PySem
theorem cx_of {α : Type} {enc : α → D} {c : DS → Option Bool} {f : DE} {δ : DS} (p : α → Bool) (g : α → D) {xs : List α} (hl : xs.length ≤ 1000) (hc : ∀ x ∈ xs, c (δ ++ [some (enc x)]) = some (p x)) (hf : ∀ x ∈ xs, p x = true → f (δ ++ [some (enc x)]) = some (g x)) : compX (some (xs.map enc)) (compF c f δ) = some ((xs.filter p).map g) := by
 rw [eo_comp (by rw [List.length_map]; omega)]
 exact comp_of p g hc hf
theorem cx_all {α : Type} {enc : α → D} {f : DE} {δ : DS} (g : α → D) {xs : List α} (hl : xs.length ≤ 1000) (hf : ∀ x ∈ xs, f (δ ++ [some (enc x)]) = some (g x)) : compX (some (xs.map enc)) (compF dYes f δ) = some (xs.map g) := by
 rw [eo_comp (by rw [List.length_map]; omega)]
 exact comp_ofAll g hf
theorem rng1_nat {m : Nat} (h : m ≤ 1000000) : rng1 (some (.int (m : Int))) = some (rngL 0 m) := by rw [eo_rng1 (by omega)]; rfl
theorem mem_ths {a : Nat} {th : List Nat} : memD (.int (a : Int)) (thD th) = some (th.contains a) := by
 unfold thD memD
 show (if (okP (.int (a : Int)) && okP (.lst (th.map nD))) = true then _ else none) = _
 rw [show okP (.lst (th.map nD)) = true from okP_th th, show okP (.int (a : Int)) = true from rfl]
 show some ((th.map nD).any fun y => PyData.eqv (toP y) (toP (.int (a : Int)))) = _
 congr 1
 rw [List.any_map, List.contains_eq_any_beq]
 congr 1
 funext x
 show decide ((x : Int) = (a : Int)) = (a == x)
 by_cases h : x = a
 ·subst h; simp
 ·have : ¬ a = x := fun e => h e.symm
  have h2 : ¬ (x : Int) = (a : Int) := by omega
  simp [this, h2]
theorem nin_ths {a : Nat} {th : List Nat} : ninD (.int (a : Int)) (thD th) = some (.bl (!th.contains a)) := by
 unfold ninD
 rw [mem_ths]
 rfl
theorem ix0 {c : Nat} {r : List Nat} : ixD (thD (c :: r)) (.int 0) = some (.int (c : Int)) := at_nat (k := 0) (xs := (c :: r).map nD) (by simp)
theorem cut_drop {o : List Nat} {k : Nat} : cut3 (some (thD o)) (some (some ((k : Int) + 1))) (some none) = some ((o.drop (k + 1)).map nD) := by
 show some (cutL (o.map nD) (some ((k : Int) + 1)) none) = _
 unfold cutL
 have e1 : HT.sIx (o.map nD).length (o.map nD).length none = (o.map nD).length := rfl
 have e2 : HT.sIx (o.map nD).length 0 (some ((k : Int) + 1)) = min (k + 1) (o.map nD).length := by
  show (if ((k : Int) + 1) < 0 then (((k : Int) + 1) + ((o.map nD).length : Int)).toNat else min ((k : Int) + 1).toNat (o.map nD).length) = _
  rw [if_neg (by omega)]
  congr 1
 rw [e1, e2, List.map_drop]
 congr 1
 by_cases h : k + 1 ≤ (o.map nD).length
 ·rw [Nat.min_eq_left h, List.take_of_length_le (by simp)]
 ·rw [Nat.min_eq_right (by omega), List.drop_eq_nil_of_le (as := o.map nD) (Nat.le_refl _), List.take_nil, List.drop_eq_nil_of_le (by omega)]
theorem cat_th {a b : List Nat} (h : a.length + b.length ≤ 1000000) : catO (some (thD a)) (some (thD b)) = some ((a ++ b).map nD) := by
 show catO (some (.lst (a.map nD))) (some (.lst (b.map nD))) = _
 rw [eo_cat (by rw [List.length_map, List.length_map]; exact h), List.map_append]
theorem th_lst (o : List Nat) : D.lst (o.map nD) = thD o := (rfl)
theorem flat_th (o : List Nat) : flatO (some (o.map nD)) = some (o.map nD) := eo_flat (imms_n o)
theorem flat_nil : flatO (some []) = some [] := (rfl)
theorem for_mapR {α : Type} {enc : α → D} {i : Nat} {b : SS → Option Out} (I : SS → Prop) (p : α → Bool) (d : D) : ∀ {xs : List α} {s : SS}, I s → (∀ x ∈ xs, ∀ δ, I δ → hol (b (δ.set i (some (.sh (enc x))))) fun o => if p x = true then (∃ δ', o = .nx δ' ∧ I δ') else o = .rt d) →
  hol (forD i b (xs.map enc) s) fun o => if xs.all p = true then (∃ δ', o = .nx δ' ∧ I δ') else o = .rt d
 | [], s, h0, _ => ⟨_, rfl, (if_pos rfl).mpr ⟨s, rfl, h0⟩⟩
 | x :: r, s, h0, hs => by
  obtain ⟨o, e, q⟩ := hs x List.mem_cons_self s h0
  rw [List.map_cons]
  unfold forD
  rw [e, List.all_cons]
  cases hp : p x with
  | true =>
   rw [hp, if_pos rfl] at q
   obtain ⟨s1, rfl, h1⟩ := q
   rw [Bool.true_and]
   exact for_mapR I p d h1 fun y hy => hs y (List.mem_cons_of_mem _ hy)
  | false =>
   rw [hp, if_neg Bool.false_ne_true] at q
   subst q
   rw [Bool.false_and]
   exact ⟨_, rfl, (if_neg Bool.false_ne_true).mpr rfl⟩
theorem for_rngR {i : Nat} {b : SS → Option Out} {m : Nat} {s : SS} (I : SS → Prop) (p : Nat → Bool) (d : D) (h0 : I s) (hs : ∀ n < m, ∀ δ, I δ → hol (b (δ.set i (some (.sh (.int (n : Int)))))) fun o => if p n = true then (∃ δ', o = .nx δ' ∧ I δ') else o = .rt d) :
  hol (forD i b (rngL 0 m) s) fun o => if (List.range m).all p = true then (∃ δ', o = .nx δ' ∧ I δ') else o = .rt d := by
 rw [rng_nat]
 exact for_mapR I p d h0 fun x hx => hs x (List.mem_range.mp hx)
theorem hol_bindR {x : Option Out} {b : SS → Option Out} {I : SS → Prop} {Q : Out → Prop} {c : Bool} {d : D} (h : hol x fun o => if c = true then (∃ s, o = .nx s ∧ I s) else o = .rt d) (k : c = true → ∀ s, I s → hol (b s) Q) (kr : c = false → Q (.rt d)) : hol (bindO x b) Q := by
 obtain ⟨o, rfl, q⟩ := h
 cases hc : c with
 | true =>
  rw [hc, if_pos rfl] at q
  obtain ⟨s, rfl, q⟩ := q
  exact k hc s q
 | false =>
  rw [hc, if_neg Bool.false_ne_true] at q
  subst q
  exact ⟨_, rfl, kr hc⟩
theorem runX_rt {np nl : Nat} {b : SS → Option Out} {ds : List D} {d : D} (hl : ds.length = np) (h : hol (b (ds.map (fun d => some (.sh d)) ++ List.replicate nl none)) fun o => o = .rt d) : runX np nl b ds = some (.val d) := by
 unfold runX
 rw [if_pos hl, hol_is.mp h]
theorem runX_ex {np nl : Nat} {b : SS → Option Out} {ds : List D} {c : Nat} (hl : ds.length = np) (h : hol (b (ds.map (fun d => some (.sh d)) ++ List.replicate nl none)) fun o => ∃ s, o = .ex c s) : runX np nl b ds = some (.exc c) := by
 obtain ⟨_, e, s, rfl⟩ := h
 unfold runX
 rw [if_pos hl, e]
def rsX (c : Nat) (x : Option D) (s : SS) : Option Out := match x with
 | some _ => some (.ex c s)
 | none => none
theorem ev_raise {c : Nat} {f : DE} {s : SS} : raiseO c f s = rsX c (f (allV s)) s := by
 unfold raiseO rsX
 generalize f (allV s) = x
 cases x <;> rfl
theorem eo_raise {c : Nat} {d : D} {s : SS} : rsX c (some d) s = some (.ex c s) := (rfl)
theorem ev_callX {m : List D → Option XO} {fl : List DE} {δ : DS} : dCallX m fl δ = (dArgs fl δ).bind m := (rfl)
def repO (x y : Option D) : Option (List D) := x.bind fun a => y.bind fun b => repLs a b
theorem ev_rep {f g : DE} {δ : DS} : dRep f g δ = repO (f δ) (g δ) := (rfl)
theorem eo_repN {d : D} {n : Nat} (h : n ≤ 1000000) : repO (some (.lst [d])) (some (.int (n : Int))) = some (List.replicate n d) := by
 have e : ∀ k : Nat, (List.replicate k [d]).flatten = List.replicate k d := fun k => by
  induction k with
  | zero => rfl
  | succ k ih => rw [List.replicate_succ, List.flatten_cons, ih, List.replicate_succ]; rfl
 show (if (0 ≤ (n : Int) ∧ (n : Int) ≤ 1000000) ∧ [d].length * (n : Int).toNat ≤ sizeLine then some (List.replicate (n : Int).toNat [d]).flatten else none) = _
 rw [if_pos ⟨⟨by omega, by omega⟩, small_line (by simp; exact h)⟩, Int.toNat_natCast, e]
def forX2 (i j : Nat) (xs : Option (List D)) (b : SS → Option Out) (s : SS) : Option Out := xs.bind fun ds => forD2 i j b ds s
theorem ev_forO2 {i j : Nat} {f : DS → Option (List D)} {g : SS → Option Out} {s : SS} : forO2 i j f g s = forX2 i j (f (shV s)) g s := (rfl)
theorem eo_for2 {i j : Nat} {ds : List D} {b : SS → Option Out} {s : SS} : forX2 i j (some ds) b s = forD2 i j b ds s := (rfl)
theorem for_enum {α : Type} {enc : α → D} {i j : Nat} {b : SS → Option Out} {QO : Out → Prop} {xs : List α} (I : List α → SS → Prop) (hs : ∀ pre x post, xs = pre ++ x :: post → ∀ δ, I pre δ → hol (b ((δ.set i (some (.sh (.int ((pre.length : Nat) : Int))))).set j (some (.sh (enc x))))) fun o => match o with | .nx δ' => I (pre ++ [x]) δ' | .ct δ' => I (pre ++ [x]) δ' | .bk δ' => QO (.nx δ') | .rt d => QO (.rt d) | .ex c δ' => QO (.ex c δ')) (he : ∀ δ, I xs δ → QO (.nx δ)) :
  ∀ {post pre : List α} {s : SS}, xs = pre ++ post → I pre s → hol (forD2 i j b (enumFrom pre.length (post.map enc)) s) QO
 | [], pre, s, e, h => ⟨_, rfl, he s (by rw [e, List.append_nil]; exact h)⟩
 | x :: post, pre, s, e, h => by
  obtain ⟨o, eo, q⟩ := hs pre x post e s h
  have e2 : enumFrom pre.length ((x :: post).map enc) = .tup [.int ((pre.length : Nat) : Int), enc x] :: enumFrom (pre ++ [x]).length (post.map enc) := by
   rw [List.map_cons, List.length_append]
   rfl
  rw [e2]
  unfold forD2
  show hol ((b ((s.set i (some (.sh (.int ((pre.length : Nat) : Int))))).set j (some (.sh (enc x))))).bind _) QO
  rw [eo]
  have e3 : xs = (pre ++ [x]) ++ post := by rw [e]; simp
  cases o with
  | nx s1 => exact for_enum I hs he e3 q
  | ct s1 => exact for_enum I hs he e3 q
  | bk s1 => exact ⟨_, rfl, q⟩
  | rt d => exact ⟨_, rfl, q⟩
  | ex c s1 => exact ⟨_, rfl, q⟩
def xeO (x : Option XO) (s : SS) : Option Out := match x with
 | some (.val _) => some (.nx s)
 | some (.exc c) => some (.ex c s)
 | none => none
def xaO (i : Nat) (x : Option XO) (s : SS) : Option Out := match x with
 | some (.val d) => some (.nx (s.set i (some (.ow d))))
 | some (.exc c) => some (.ex c s)
 | none => none
theorem ev_exprX {F : DS → Option XO} {s : SS} : exprX F s = xeO (F (allV s)) s := by
 unfold exprX xeO
 generalize F (allV s) = x
 rcases x with _ | _ | _ <;> rfl
theorem ev_asgX {i : Nat} {F : DS → Option XO} {s : SS} : asgX i F s = xaO i (F (allV s)) s := by
 unfold asgX xaO
 generalize F (allV s) = x
 rcases x with _ | _ | _ <;> rfl
theorem eo_xeV {d : D} {s : SS} : xeO (some (.val d)) s = some (.nx s) := (rfl)
theorem eo_xeE {c : Nat} {s : SS} : xeO (some (.exc c)) s = some (.ex c s) := (rfl)
theorem eo_xaV {i : Nat} {d : D} {s : SS} : xaO i (some (.val d)) s = some (.nx (s.set i (some (.ow d)))) := (rfl)
theorem eo_xaE {i c : Nat} {s : SS} : xaO i (some (.exc c)) s = some (.ex c s) := (rfl)
theorem eo_bex {c : Nat} {s : SS} {b : SS → Option Out} : bindO (some (.ex c s)) b = some (.ex c s) := (rfl)
def tryX (x : Option Out) (gh : Nat → SS → Option Out) : Option Out := match x with
 | some (.ex c s) => gh c s
 | o => o
theorem ev_try {gb : SS → Option Out} {gh : Nat → SS → Option Out} {s : SS} : tryO gb gh s = tryX (gb s) gh := by
 unfold tryO tryX
 generalize gb s = x
 rcases x with _ | x
 ·rfl
 ·cases x <;> rfl
theorem eo_trN {s : SS} {gh : Nat → SS → Option Out} : tryX (some (.nx s)) gh = some (.nx s) := (rfl)
theorem eo_trE {c : Nat} {s : SS} {gh : Nat → SS → Option Out} : tryX (some (.ex c s)) gh = gh c s := (rfl)
def unX (i : Nat) (x : Option Out) : Option Out := match x with
 | some o => unO i o
 | none => none
theorem ev_asX {i : Nat} {x : Str} {g : SS → Option Out} {s : SS} : asXO i x g s = unX i (g (s.set i (some (.sh (.exc x))))) := by
 unfold asXO unX
 generalize g (s.set i (some (.sh (.exc x)))) = z
 cases z <;> rfl
theorem eo_unN {i : Nat} {s : SS} : unX i (some (.nx s)) = some (.nx (s.set i none)) := (rfl)
theorem es_own0 {d : D} {r : SS} : ownV (some (.ow d) :: r) 0 = some d := (rfl)
theorem es_ownS {x : Option SD} {r : SS} {i : Nat} : ownV (x :: r) (i + 1) = ownV r i := by
 unfold ownV
 rw [List.getElem?_cons_succ]
end L2
namespace L2
open PySem
def iv1 : Option D → Option (Int × Nat)
 | some (.int j) => if -(2 ^ 62) ≤ j ∧ j < 2 ^ 62 then some (0, j.toNat) else none
 | _ => none
theorem ev_iv1 {f : DE} {δ : DS} : dIv1 f δ = iv1 (f δ) := (rfl)
def forIX (i : Nat) (o : Option (Int × Nat)) (b : SS → Option Out) (s : SS) : Option Out := o.bind fun z => forD i b (rngL z.1 z.2) s
theorem ev_forI {i : Nat} {f : DS → Option (Int × Nat)} {b : SS → Option Out} {s : SS} : forI i f b s = forIX i (f (allV s)) b s := (rfl)
theorem eo_forI {i : Nat} {lo : Int} {n : Nat} {b : SS → Option Out} {s : SS} : forIX i (some (lo, n)) b s = forD i b (rngL lo n) s := (rfl)
theorem eo_iv1 {n : Int} (h : -(2 ^ 62) ≤ n ∧ n < 2 ^ 62) : iv1 (some (.int n)) = some (0, n.toNat) := if_pos h
theorem iv1_nat {m : Nat} (h : m ≤ 1000000) : iv1 (some (.int (m : Int))) = some (0, m) := by rw [eo_iv1 (by omega)]; rfl
def r3O (x y z : Option D) : Option Out := match x, y, z with
 | some d, some e, some f => some (.rt (.lst [d, e, f]))
 | _, _, _ => none
theorem ev_ret3 {i j l : Nat} {s : SS} : ret3 i j l s = r3O (ownV s i) (ownV s j) (ownV s l) := by
 unfold ret3 r3O
 generalize ownV s i = x
 generalize ownV s j = y
 generalize ownV s l = z
 rcases x with _ | x <;> rcases y with _ | y <;> rcases z with _ | z <;> rfl
theorem eo_r3 {d e f : D} : r3O (some d) (some e) (some f) = some (.rt (.lst [d, e, f])) := (rfl)
def okN (n : Nat) (d : D) : Prop := (toP d).canLay0 = true ∧ (toP d).depth ≤ n
def oksN (n : Nat) (ds : List D) : Prop := PyData.canLayAll0 (toPs ds) = true ∧ PyData.depthAll (toPs ds) ≤ n
theorem oks_all {n : Nat} : ∀ {ds : List D}, (∀ d ∈ ds, okN n d) → oksN n ds
 | [], _ => ⟨rfl, Nat.zero_le n⟩
 | d :: ds, h => by
  have h1 := h d List.mem_cons_self
  have h2 := oks_all fun x hx => h x (List.mem_cons_of_mem _ hx)
  constructor
  ·show (PyData.canLay0 (toP d) && PyData.canLayAll0 (toPs ds)) = true
   rw [h1.1, h2.1]
   rfl
  ·show max (PyData.depth (toP d)) (PyData.depthAll (toPs ds)) ≤ n
   have := h1.2
   have := h2.2
   omega
theorem okN_lst {n : Nat} {ds : List D} (h : ∀ d ∈ ds, okN n d) : okN (n + 1) (.lst ds) := by
 have := oks_all h
 exact ⟨this.1, Nat.succ_le_succ this.2⟩
theorem okN_map {α : Type} {n : Nat} {f : α → D} {xs : List α} (h : ∀ x ∈ xs, okN n (f x)) : okN (n + 1) (.lst (xs.map f)) := okN_lst fun d hd => by
 obtain ⟨x, hx, rfl⟩ := List.mem_map.mp hd
 exact h x hx
theorem okN_up {n k : Nat} {d : D} (h : okN n d) (hk : n ≤ k) : okN k d := ⟨h.1, Nat.le_trans h.2 hk⟩
theorem okN_int {i : Int} : okN 0 (.int i) := ⟨rfl, Nat.le_refl 0⟩
theorem okN_bl {b : Bool} : okN 0 (.bl b) := ⟨rfl, Nat.le_refl 0⟩
theorem okN_nat {n : Nat} : okN 0 (nD n) := okN_int
theorem okN_th (th : List Nat) : okN 1 (thD th) := okN_map fun _ _ => okN_nat
theorem okN_ints (o : List Int) : okN 1 (.lst (o.map .int)) := okN_map fun _ _ => okN_int
theorem okN_row (r : List Bool) : okN 1 (rowD r) := okN_map fun _ _ => okN_bl
theorem okN_tab (T : List (List Bool)) : okN 2 (tabD T) := okN_map fun r _ => okN_row r
theorem okP_of {n : Nat} {d : D} (h : okN n d) (hn : n ≤ 60) : okP d = true := by
 unfold okP
 rw [Bool.and_eq_true, decide_eq_true_eq]
 exact ⟨h.1, Nat.le_trans h.2 hn⟩
theorem okN_2 {n : Nat} {x y : D} (h1 : okN n x) (h2 : okN n y) : okN (n + 1) (.lst [x, y]) := okN_lst fun d hd => by
 rcases List.mem_cons.mp hd with rfl | hd
 ·exact h1
 ·rw [List.mem_singleton] at hd
  subst hd
  exact h2
theorem ne_same {n : Nat} {d : D} (h : okN n d) (hn : n ≤ 60) : neD d d = some (.bl false) := ne_self (okP_of h hn)
theorem app_mapV {α : Type} {enc : α → D} {xs : List α} {x : α} (hl : xs.length ≤ 1000000) : m0V appF (some (.lst (xs.map enc))) (some [enc x]) = some (.lst ((xs ++ [x]).map enc)) := by
 show (if (xs.map enc).length < sizeLine then some (xs.map enc ++ [enc x]) else none).map D.lst = _
 rw [List.length_map, if_pos (by rw [PySem.sizeLine_eq]; omega), List.map_append]
 rfl
theorem ins_mapV {α : Type} {enc : α → D} {xs : List α} {x : α} {b : Nat} (hb : b ≤ xs.length) (hl : xs.length ≤ 1000000) : m0V insF (some (.lst (xs.map enc))) (some [.int (b : Int), enc x]) = some (.lst ((xs.take b ++ x :: xs.drop b).map enc)) := by
 show Option.map _ (if (xs.map enc).length < sizeLine ∧ -(2 ^ 63) ≤ (b : Int) ∧ (b : Int) < 2 ^ 63 then _ else none) = _
 rw [List.length_map, if_pos ⟨by rw [PySem.sizeLine_eq]; omega, by omega, by omega⟩, ins_at hb]
 rw [List.map_append, List.map_cons, List.map_take, List.map_drop]
 rfl
theorem ix_map {α : Type} {enc : α → D} {xs : List α} {k : Nat} {x : α} (h : xs[k]? = some x) : ixD (.lst (xs.map enc)) (.int (k : Int)) = some (enc x) := ix_nat (by rw [List.getElem?_map, h]; rfl)
theorem ix_mapD {α : Type} {enc : α → D} {xs : List α} {k : Nat} {d : α} (h : k < xs.length) : ixD (.lst (xs.map enc)) (.int (k : Int)) = some (enc (xs.getD k d)) := ix_map (by simp [List.getD, List.getElem?_eq_getElem h])
theorem len_map {α : Type} {enc : α → D} {xs : List α} : lenF [.lst (xs.map enc)] = some (.int (xs.length : Int)) := by
 show some (D.int ((xs.map enc).length : Int)) = _
 rw [List.length_map]
theorem ea_at0 {x : D} {r : List D} : atI (x :: r) 0 = some x := atI_nat (j := 0) rfl
theorem ea_min {i j : Int} : minF [.int i, .int j] = some (.int (if j < i then j else i)) := (rfl)
def inD' (ws : List Int) : D := .lst (ws.map .int)
def catSO (x y : Option D) : Option (List D) := x.bind fun x => y.bind fun y => catSs x y
theorem ev_catS {f g : DE} {δ : DS} : dCatS f g δ = catSO (f δ) (g δ) := (rfl)
theorem catS_lr {o ns : List Int} (h : o.length + ns.length ≤ 1000000) : catSO (some (.lst (o.map .int))) (some (.scr ns)) = some ((o ++ ns).map .int) := by
 show (if (o.map D.int).length + (ns.map D.int).length ≤ sizeLine then some (o.map D.int ++ ns.map D.int) else none) = _
 rw [if_pos (small_line (by simpa using h)), List.map_append]
end L2
namespace L2
open PySem
end L2
namespace L2
open PySem
def extDV (o x : Option D) : Option D := match x, o with
 | some (.lst es), some (.lst ds) => if imms es = true ∧ ds.length + es.length ≤ sizeLine then some (.lst (ds ++ es)) else none
 | _, _ => none
theorem ev_ext0D {i : Nat} {f : DE} {s : SS} : ext0D i f s = putO i (extDV (owA i s) (f (allV s))) s := by
 unfold ext0D owA
 cases f (allV s) with
 | none => rcases s[i]? with _ | _ | ⟨x | x | ⟨r, x⟩⟩ <;> rfl
 | some d =>
  cases d <;> rcases s[i]? with _ | _ | ⟨x | x | ⟨r, x⟩⟩ <;> (first | rfl | (cases x <;> (first | rfl | (show (if _ then _ else _) = putO i (if _ then _ else _) s; split <;> rfl))))
theorem eo_extD {ds es : List D} (hi : imms es = true) (h : ds.length + es.length ≤ 1000000) : extDV (some (.lst ds)) (some (.lst es)) = some (.lst (ds ++ es)) := if_pos ⟨hi, small_line h⟩
end L2
namespace L2
open PySem
def st0NV (o k v : Option D) : Option D := match o, k, v with
 | some (.lst ds), some (.int k), some d => (ixN ds.length k).map fun j => .lst (ds.set j d)
 | _, _, _ => none
theorem ev_st0N {i : Nat} {fk fv : DE} {s : SS} : st0N i fk fv s = putO i (st0NV (owA i s) (fk (allV s)) (fv (allV s))) s := by
 unfold st0N owA
 rcases fv (allV s) with _ | d
 ·rcases fk (allV s) with _ | k <;> rcases s[i]? with _ | _ | ⟨x | x | ⟨r, x⟩⟩ <;> (first | rfl | (cases x <;> first | rfl | (cases k <;> rfl)))
 ·rcases fk (allV s) with _ | k
  ·rcases s[i]? with _ | _ | ⟨x | x | ⟨r, x⟩⟩ <;> (first | rfl | (cases x <;> rfl))
  ·rcases s[i]? with _ | _ | ⟨x | x | ⟨r, x⟩⟩ <;> cases k <;> (first | rfl | (cases x <;> first | rfl | skip))
   rename_i k ds
   show (ixN ds.length k).map _ = putO i ((ixN ds.length k).map _) s
   cases ixN ds.length k <;> rfl
end L2
namespace L2
open PySem
end L2
namespace L2
open PySem
def sD (th : List Nat) : D := .scr (th.map fun n => ((n : Nat) : Int))
theorem ev_fz {f : DE} {δ : DS} : dFz f δ = (f δ).bind fzD := (rfl)
theorem sD_n (th : List Nat) : (th.map fun n => ((n : Nat) : Int)).map D.int = th.map nD := by rw [List.map_map]; rfl
theorem seq_sc {th : List Nat} : seqD (sD th) = some (th.map nD) := by
 show some ((th.map fun n => ((n : Nat) : Int)).map D.int) = _
 rw [sD_n]
theorem len_sc {th : List Nat} : lenF [sD th] = some (.int (th.length : Int)) := by
 show some (D.int ((th.map fun n => ((n : Nat) : Int)).length : Int)) = _
 rw [List.length_map]
theorem ix_sc {th : List Nat} {k : Nat} (h : k < th.length) : ixD (sD th) (.int (k : Int)) = some (nD (th.getD k 0)) := by
 show (atI (th.map fun n => ((n : Nat) : Int)) (k : Int)).map D.int = _
 rw [at_nat (by rw [List.length_map]; exact h), List.getElem_map]
 simp [List.getD, h, nD]
theorem ints_nD : ∀ o : List Nat, intsO (o.map nD) = some (o.map fun n => ((n : Nat) : Int))
 | [] => rfl
 | n :: r => by
  show (intsO (r.map nD)).map (((n : Nat) : Int) :: ·) = _
  rw [ints_nD r]
  rfl
theorem fz_th {th : List Nat} : fzD (thD th) = some (sD th) := by
 show (match intsO (th.map nD) with | some ns => some (D.scr ns) | none => (scrs (th.map nD)).map .lst) = _
 rw [ints_nD]
 rfl
theorem lay_ints' : ∀ o : List Int, PyData.canLayAll0 (o.map PyData.int) = true
 | [] => rfl
 | n :: r => by
  show (PyData.canLay0 (.int n) && PyData.canLayAll0 (r.map PyData.int)) = true
  rw [lay_ints' r]
  rfl
theorem dep_ints' : ∀ o : List Int, PyData.depthAll (o.map PyData.int) = 0
 | [] => rfl
 | n :: r => by
  show max (PyData.depth (.int n)) (PyData.depthAll (r.map PyData.int)) = 0
  rw [dep_ints' r]
  rfl
theorem mem_sc {a : Nat} {th : List Nat} : memS (.int (a : Int)) (sD th) = some (th.contains a) := by
 show (if okP (.int (a : Int)) = true then some ((th.map fun n => ((n : Nat) : Int)).any fun n => PyData.eqv (.int n) (.int (a : Int))) else none) = _
 have ok : okP (.int (a : Int)) = true := okP_of okN_int (by omega)
 rw [if_pos ok, List.any_map]
 congr 1
 rw [Bool.eq_iff_iff, List.any_eq_true, List.contains_iff_mem]
 constructor
 ·rintro ⟨n, hn, h⟩
  have h : ((n : Int) == (a : Int)) = true := h
  have : n = a := by have := eq_of_beq h; omega
  exact this ▸ hn
 ·intro h
  exact ⟨a, h, show ((a : Int) == (a : Int)) = true by simp⟩
theorem in_sc {a : Nat} {th : List Nat} : inS (.int (a : Int)) (sD th) = some (.bl (th.contains a)) := by
 unfold inS
 rw [mem_sc]
 rfl
end L2
namespace L2
open PySem
end L2
set_option maxHeartbeats 4000000
namespace Prg
open PySem PySem.Spec PyProof.Rows L2
def top (i : Nat) : Stmt := PySem.Challenge.pw_askorder_k75_bad_pieces.main.body.getD i (.Pass ⟨0, 0, 0, 0⟩)
abbrev s_part : Stmt := top 7
abbrev N_part : List Str := ["table", "things"]
abbrev P_part : List Str := ["table", "things"]
abbrev s_picked : Stmt := top 8
abbrev N_picked : List Str := ["row", "things"]
abbrev P_picked : List Str := ["row", "things"]
abbrev s_stands_together : Stmt := top 10
abbrev N_stands_together : List Str := ["table", "things"]
abbrev P_stands_together : List Str := ["table", "things"]
abbrev s_parting : Stmt := top 11
abbrev N_parting : List Str := ["table", "things"]
abbrev P_parting : List Str := ["table", "things"]
abbrev s_sees_as_one : Stmt := top 12
abbrev N_sees_as_one : List Str := ["table", "other", "things", "marks"]
abbrev P_sees_as_one : List Str := ["table", "other", "things"]
abbrev s_is_thing : Stmt := top 14
abbrev N_is_thing : List Str := ["value", "many"]
abbrev P_is_thing : List Str := ["value", "many"]
abbrev s_tells_each_once : Stmt := top 15
abbrev N_tells_each_once : List Str := ["order", "many", "told", "thing"]
abbrev P_tells_each_once : List Str := ["order", "many"]
abbrev s_places_of : Stmt := top 17
abbrev N_places_of : List Str := ["pieces", "many", "told", "piece", "places", "place", "thing"]
abbrev P_places_of : List Str := ["pieces", "many"]
abbrev s_folded : Stmt := top 18
abbrev N_folded : List Str := ["table", "pieces"]
abbrev P_folded : List Str := ["table", "pieces"]
abbrev s__law_cell_at : Stmt := top 20
abbrev N__law_cell_at : List Str := ["script", "k"]
abbrev P__law_cell_at : List Str := ["script", "k"]
abbrev s__law_table_by : Stmt := top 21
abbrev N__law_table_by : List Str := ["cell", "many", "rows", "rest", "one", "other"]
abbrev P__law_table_by : List Str := ["cell", "many"]
abbrev s__law_mixed : Stmt := top 22
abbrev N__law_mixed : List Str := ["script", "many", "outer", "inner", "homes", "k", "cell", "most", "size", "at", "turn"]
abbrev P__law_mixed : List Str := ["script"]
abbrev s__law_beats : Stmt := top 23
abbrev N__law_beats : List Str := ["mixed", "one", "other"]
abbrev P__law_beats : List Str := ["mixed", "one", "other"]
abbrev s__law_table : Stmt := top 24
abbrev N__law_table : List Str := ["mixed", "rows", "one"]
abbrev P__law_table : List Str := ["mixed"]
abbrev s__law_pieces : Stmt := top 25
abbrev N__law_pieces : List Str := ["mixed", "pieces", "k"]
abbrev P__law_pieces : List Str := ["mixed"]
abbrev s__law_breaks : Stmt := top 26
abbrev N__law_breaks : List Str := ["table", "things", "other", "beaten"]
abbrev P__law_breaks : List Str := ["table", "things", "other"]
abbrev s__law_together : Stmt := top 27
abbrev N__law_together : List Str := ["table", "things", "other"]
abbrev P__law_together : List Str := ["table", "things"]
abbrev s__law_any : Stmt := top 28
abbrev N__law_any : List Str := ["cell", "many", "pieces", "k"]
abbrev P__law_any : List Str := ["cell", "many"]
abbrev s__law_spoiled : Stmt := top 29
abbrev N__law_spoiled : List Str := ["pieces", "cell", "many", "fault", "at", "piece", "j", "other", "spoiled", "i"]
abbrev P__law_spoiled : List Str := ["pieces", "cell", "many"]
abbrev s__law_refused : Stmt := top 30
abbrev N__law_refused : List Str := ["table", "pieces", "fold", "names", "found", "e"]
abbrev P__law_refused : List Str := ["table", "pieces", "fold"]
abbrev s__law_due : Stmt := top 31
abbrev N__law_due : List Str := ["table", "pieces", "good", "fold", "heads"]
abbrev P__law_due : List Str := ["table", "pieces", "good", "fold"]
abbrev s__law_good : Stmt := top 32
abbrev N__law_good : List Str := ["pieces", "many", "every", "piece"]
abbrev P__law_good : List Str := ["pieces", "many"]
abbrev s__law_all_together : Stmt := top 33
abbrev N__law_all_together : List Str := ["table", "pieces", "piece"]
abbrev P__law_all_together : List Str := ["table", "pieces"]
abbrev s_law : Stmt := top 34
abbrev N_law : List Str := ["script", "mixed", "table", "cell", "spoiled", "good", "fold", "handed"]
abbrev P_law : List Str := ["script"]
theorem nd0 : (["row", "things", "other"] : List Str).Nodup := by decide +kernel
theorem nd1 : (["table", "things", "one"] : List Str).Nodup := by decide +kernel
theorem nd2 : (["table", "other", "things", "marks", "thing"] : List Str).Nodup := by decide +kernel
theorem nd3 : (["table", "things", "other"] : List Str).Nodup := by decide +kernel
theorem nd4 : (["table", "pieces", "piece"] : List Str).Nodup := by decide +kernel
theorem nd5 : (["cell", "many", "rows", "rest", "one", "other", "k"] : List Str).Nodup := by decide +kernel
theorem nd6 : (["mixed", "rows", "one", "other"] : List Str).Nodup := by decide +kernel
theorem nd7 : (["mixed", "pieces", "k", "thing"] : List Str).Nodup := by decide +kernel
theorem nd8 : (["table", "things", "other", "beaten", "one"] : List Str).Nodup := by decide +kernel
theorem nd9 : (["cell", "many", "pieces", "3", "k"] : List Str).Nodup := by decide +kernel
theorem nd10 : (["pieces", "cell", "many", "fault", "at", "piece", "j", "other", "spoiled", "i", "one"] : List Str).Nodup := by decide +kernel
theorem nd11 : (["table", "pieces", "good", "fold", "heads", "one"] : List Str).Nodup := by decide +kernel
theorem nd12 : (["table", "pieces", "good", "fold", "heads", "one", "other"] : List Str).Nodup := by decide +kernel
theorem nd13 : (["table", "pieces", "good", "fold", "heads", "piece"] : List Str).Nodup := by decide +kernel
theorem nd14 : (["script", "mixed", "table", "cell", "spoiled", "good", "fold", "handed", "row"] : List Str).Nodup := by decide +kernel
theorem nd15 : (["script", "mixed", "table", "cell", "spoiled", "good", "fold", "handed", "piece"] : List Str).Nodup := by decide +kernel
def g_picked : SS → Option Out := (retN (mkFlat (dComp (dSeq (dVar 1)) dYes (d2 ixD (dVar 0) (dVar 2)))))
def m_picked : List D → Option D := runD 2 0 g_picked
def g_part : SS → Option Out := (retN (mkL (dComp (dSeq (dVar 1)) dYes (dCall m_picked [(d2 ixD (dVar 0) (dVar 2)), (dVar 1)]))))
def m_part : List D → Option D := runD 2 0 g_part
def g_sees_as_one : SS → Option Out := (seqO (asgN 3 (mkFlat (dComp (dSeq (dVar 2)) dYes (d2 ixD (d2 ixD (dVar 0) (dVar 1)) (dVar 4)))))
 (retI (dOr (dCall allF [(dVar 3)]) (d1 uNot (dCall anyF [(dVar 3)])))))
def m_sees_as_one : List D → Option D := runD 3 1 g_sees_as_one
def g_parting : SS → Option Out := (retN (mkFlat (dComp (dRng1 (dCall lenF [(dVar 0)])) (dAndT (dTest (d2 ninD (dVar 2) (dVar 1))) (dNotT (dTruth (dCall m_sees_as_one [(dVar 0), (dVar 2), (dVar 1)])))) (dVar 2))))
def m_parting : List D → Option D := runD 2 0 g_parting
def g_stands_together : SS → Option Out := (retI (d2 eqD (dCall lenF [(dCall m_parting [(dVar 0), (dVar 1)])]) (dC (.int 0))))
def m_stands_together : List D → Option D := runD 2 0 g_stands_together
def g_is_thing : SS → Option Out := (retI (dAnd (dIs "int" (dVar 0)) (dAnd (d1 uNot (dIs "bool" (dVar 0))) (dChain leI ltI (dC (.int 0)) (dVar 0) (dVar 1)))))
def m_is_thing : List D → Option D := runD 2 0 g_is_thing
def g_tells_each_once : SS → Option Out := (seqO (ifO (dTest (d2 neD (dCall lenF [(dVar 0)]) (dVar 1))) (retI (dC (.bl false))) skipO)
 (seqO (asgN 2 (dC (.dct [] [])))
 (seqO (forO 3 (dSeq (dVar 0)) (seqO (ifO (dOrT (dNotT (dTruth (dCall m_is_thing [(dVar 3), (dVar 1)]))) (dDIn (dVar 3) (dVar 2))) (retI (dC (.bl false))) skipO)
 (dput 2 (dVar 3) (dC (.bl true)))))
 (retI (dC (.bl true))))))
def m_tells_each_once : List D → Option D := runD 2 2 g_tells_each_once
def g_places_of : SS → Option Out := (seqO (asgN 2 (mkFlat (dArgs [])))
 (seqO (forO 3 (dSeq (dVar 0)) (seqO (ifO (dTest (d2 eqD (dCall lenF [(dVar 3)]) (dC (.int 0)))) (raiseO 3 (dC (.str "a piece is empty"))) skipO)
 (ext0D 2 (dVar 3))))
 (seqO (ifO (dNotT (dTruth (dCall m_tells_each_once [(dVar 2), (dVar 1)]))) (raiseO 3 (dC (.str "the pieces do not tell each thing once and nothing else"))) skipO)
 (seqO (asgN 4 (mkFlat (dRep (mkL (dArgs [(dC (.int 0))])) (dVar 1))))
 (seqO (forO2 5 3 (dEnum (dVar 0)) (forO 6 (dSeq (dVar 3)) (st0 4 (dVar 6) (dVar 5))))
 (retO 4))))))
def m_places_of : List D → Option XO := runX 2 5 g_places_of
def g_folded : SS → Option Out := (seqO (exprX (dCallX m_places_of [(dVar 1), (dCall lenF [(dVar 0)])]))
 (seqO (ifO (dNotT (dTruth (dCall allF [(mkL (dComp (dSeq (dVar 1)) dYes (dCall m_stands_together [(dVar 0), (dVar 2)])))]))) (raiseO 3 (dC (.str "a piece does not stand together"))) skipO)
 (retN (dCall m_part [(dVar 0), (mkL (dComp (dSeq (dVar 1)) dYes (d2 ixD (dVar 2) (dC (.int 0)))))]))))
def m_folded : List D → Option XO := runX 2 0 g_folded
def g__law_cell_at : SS → Option Out := (seqO (ifO (dTest (d2 ltI (dVar 1) (dCall lenF [(dVar 0)]))) (retI (d2 ixD (dVar 0) (dVar 1))) skipO)
 (retI (dC (.int 0))))
def m__law_cell_at : List D → Option D := runD 2 0 g__law_cell_at
def g__law_table_by : SS → Option Out := (seqO (asgN 2 (mkL (dComp (dRng1 (dVar 1)) dYes (mkFlat (dRep (mkL (dArgs [(dC (.bl false))])) (dVar 1))))))
 (seqO (asgI 3 (d2 modI (d2 mulI (dVar 0) (dC (.int 48271))) (dC (.int 2147483647))))
 (seqO (forO 4 (dRng1 (dVar 1)) (forO 5 (dRng2 (d2 addI (dVar 4) (dC (.int 1))) (dVar 1)) (seqO (st1 2 (dVar 4) (dVar 5) (d2 eqD (d2 modI (dVar 3) (dC (.int 2))) (dC (.int 0))))
 (seqO (st1 2 (dVar 5) (dVar 4) (d2 eqD (d2 modI (dVar 3) (dC (.int 2))) (dC (.int 1))))
 (asgI 3 (d2 divI (dVar 3) (dC (.int 2))))))))
 (retO 2))))
def m__law_table_by : List D → Option D := runD 2 4 g__law_table_by
def g__law_mixed : SS → Option Out := (seqO (asgI 1 (d2 addI (dC (.int 1)) (d2 modI (dCall m__law_cell_at [(dVar 0), (dC (.int 0))]) (dC (.int 4)))))
 (seqO (ifO (dTest (d2 eqD (d2 modI (d2 divI (dCall m__law_cell_at [(dVar 0), (dC (.int 0))]) (dC (.int 4))) (dC (.int 4))) (dC (.int 1)))) (asgI 1 (d2 addI (dVar 1) (dC (.int 4)))) skipO)
 (seqO (asgN 2 (dCall m__law_table_by [(dCall m__law_cell_at [(dVar 0), (dC (.int 1))]), (dVar 1)]))
 (seqO (asgN 3 (mkFlat (dArgs [])))
 (seqO (asgN 4 (mkFlat (dArgs [])))
 (seqO (forI 5 (dIv1 (dCall lenF [(dVar 2)])) (seqO (asgN 6 (dCall m__law_cell_at [(dVar 0), (d2 addI (dC (.int 2)) (dVar 5))]))
 (seqO (asgI 7 (d2 addI (d2 subI (d2 subI (dC (.int 9)) (dCall lenF [(dVar 4)])) (dCall lenF [(dVar 2)])) (dVar 5)))
 (seqO (asgI 8 (d2 ixD (mkL (dArgs [(dC (.int 1)), (dCall minF [(dC (.int 3)), (dVar 7)]), (d2 addI (dC (.int 1)) (d2 modI (d2 divI (dVar 6) (dC (.int 4))) (dVar 7)))])) (dCall minF [(d2 modI (dVar 6) (dC (.int 4))), (dC (.int 2))])))
 (seqO (app0N 3 (dCall m__law_table_by [(d2 divI (dVar 6) (dC (.int 32))), (dVar 8)]))
 (forO 9 (dRng1 (dVar 8)) (seqO (asgI 10 (d2 modI (dCall m__law_cell_at [(dVar 0), (d2 addI (dC (.int 6)) (dCall lenF [(dVar 4)]))]) (d2 addI (dCall lenF [(dVar 4)]) (dC (.int 1)))))
 (m0 4 insF [(dVar 10), (mkT (dArgs [(dVar 5), (dVar 9)]))]))))))))
 (ret3 2 3 4)))))))
def m__law_mixed : List D → Option D := runD 1 10 g__law_mixed
def g__law_beats : SS → Option Out := (seqO (ifO (dTest (d2 eqD (d2 ixD (dVar 1) (dC (.int 0))) (d2 ixD (dVar 2) (dC (.int 0))))) (retI (d2 ixD (d2 ixD (d2 ixD (d2 ixD (dVar 0) (dC (.int 1))) (d2 ixD (dVar 1) (dC (.int 0)))) (d2 ixD (dVar 1) (dC (.int 1)))) (d2 ixD (dVar 2) (dC (.int 1))))) skipO)
 (retI (d2 ixD (d2 ixD (d2 ixD (dVar 0) (dC (.int 0))) (d2 ixD (dVar 1) (dC (.int 0)))) (d2 ixD (dVar 2) (dC (.int 0))))))
def m__law_beats : List D → Option D := runD 3 0 g__law_beats
def g__law_table : SS → Option Out := (seqO (asgN 1 (mkFlat (dArgs [])))
 (seqO (forO 2 (dSeq (d2 ixD (dVar 0) (dC (.int 2)))) (app0N 1 (mkL (dComp (dSeq (d2 ixD (dVar 0) (dC (.int 2)))) dYes (dCall m__law_beats [(dVar 0), (dVar 2), (dVar 3)])))))
 (retO 1)))
def m__law_table : List D → Option D := runD 1 2 g__law_table
def g__law_pieces : SS → Option Out := (seqO (asgN 1 (mkFlat (dArgs [])))
 (seqO (forI 2 (dIv1 (dCall lenF [(d2 ixD (dVar 0) (dC (.int 0)))])) (app0N 1 (mkFlat (dComp (dRng1 (dCall lenF [(d2 ixD (dVar 0) (dC (.int 2)))])) (dTest (d2 eqD (d2 ixD (d2 ixD (d2 ixD (dVar 0) (dC (.int 2))) (dVar 3)) (dC (.int 0))) (dVar 2))) (dVar 3)))))
 (retO 1)))
def m__law_pieces : List D → Option D := runD 1 2 g__law_pieces
def g__law_breaks : SS → Option Out := (seqO (ifO (dTest (d2 inS (dVar 2) (dVar 1))) (retI (dC (.bl false))) skipO)
 (seqO (asgN 3 (mkFlat (dComp (dSeq (dVar 1)) (dTruth (d2 ixD (d2 ixD (dVar 0) (dVar 2)) (dVar 4))) (dVar 4))))
 (retI (dAnd (d2 gtI (dCall lenF [(dVar 3)]) (dC (.int 0))) (d2 ltI (dCall lenF [(dVar 3)]) (dCall lenF [(dVar 1)]))))))
def m__law_breaks : List D → Option D := runD 3 1 g__law_breaks
def g__law_together : SS → Option Out := (seqO (forO 2 (dRng1 (dCall lenF [(dVar 0)])) (ifO (dTruth (dCall m__law_breaks [(dVar 0), (dVar 1), (dVar 2)])) (retI (dC (.bl false))) skipO))
 (retI (dC (.bl true))))
def m__law_together : List D → Option D := runD 2 1 g__law_together
def g__law_any : SS → Option Out := (seqO (asgN 2 (mkL (dComp (dRng1 (d2 modI (dVar 0) (dC (.int 5)))) dYes (mkFlat (dArgs [])))))
 (seqO (asgI 0 (d2 divI (dVar 0) (dC (.int 5))))
 (seqO (forO 3 (dRng1 (d2 modI (dVar 0) (dC (.int 13)))) (seqO (asgI 0 (d2 divI (dVar 0) (dC (.int 17))))
 (seqO (ifO (dTest (d2 gtI (dCall lenF [(dVar 2)]) (dC (.int 0)))) (m1 2 (d2 modI (dVar 0) (dCall lenF [(dVar 2)])) appF [(d2 subI (d2 modI (d2 divI (dVar 0) (dC (.int 5))) (d2 addI (dVar 1) (dC (.int 2)))) (dC (.int 1)))]) skipO)
 (asgI 0 (d2 divI (dVar 0) (dC (.int 61)))))))
 (fzsO 2 (retO 2)))))
def m__law_any : List D → Option D := runD 2 2 g__law_any
def g__law_spoiled : SS → Option Out := (seqO (asgI 3 (d2 modI (dVar 1) (dC (.int 12))))
 (seqO (ifO (dTest (d2 eqD (dVar 3) (dC (.int 11)))) (retN (dCall m__law_any [(d2 divI (dVar 1) (dC (.int 12))), (dVar 2)])) skipO)
 (seqO (asgI 4 (d2 modI (d2 divI (dVar 1) (dC (.int 11))) (dCall lenF [(dVar 0)])))
 (seqO (asgS 5 (d2 ixD (dVar 0) (dVar 4)))
 (seqO (asgI 6 (d2 modI (d2 divI (dVar 1) (dC (.int 88))) (dCall lenF [(dVar 5)])))
 (seqO (asgI 7 (d2 modI (d2 divI (dVar 1) (dC (.int 704))) (dCall lenF [(dVar 0)])))
 (seqO (asgN 8 (mkL (dComp (dSeq (dVar 0)) dYes (mkFlat (dCallL listF [(dVar 10)])))))
 (seqO (ifO (dTest (d2 eqD (dVar 3) (dC (.int 1)))) (m1 8 (dVar 4) popF [(dVar 6)]) skipO)
 (seqO (ifO (dTest (d2 eqD (dVar 3) (dC (.int 2)))) (m1 8 (dVar 4) insF [(d2 modI (d2 divI (dVar 1) (dC (.int 704))) (d2 addI (dCall lenF [(dVar 5)]) (dC (.int 1)))), (d2 ixD (dVar 5) (dVar 6))]) skipO)
 (seqO (ifO (dTest (d2 eqD (dVar 3) (dC (.int 3)))) (m1 8 (dVar 7) appF [(d2 ixD (dVar 5) (dVar 6))]) skipO)
 (seqO (ifO (dTest (d2 eqD (dVar 3) (dC (.int 4)))) (st1 8 (dVar 4) (dVar 6) (d2 subI (d2 subI (dC (.int 0)) (dC (.int 1))) (d2 ixD (dVar 5) (dVar 6)))) skipO)
 (seqO (ifO (dTest (d2 eqD (dVar 3) (dC (.int 5)))) (m1 8 (dVar 4) appF [(d2 addI (dVar 2) (d2 modI (d2 divI (dVar 1) (dC (.int 704))) (dC (.int 3))))]) skipO)
 (seqO (ifO (dTest (d2 eqD (dVar 3) (dC (.int 6)))) (ins0N 8 (d2 modI (d2 divI (dVar 1) (dC (.int 704))) (d2 addI (dCall lenF [(dVar 0)]) (dC (.int 1)))) (mkFlat (dArgs []))) skipO)
 (seqO (ifO (dTest (d2 eqD (dVar 3) (dC (.int 7)))) (m0 8 popF [(dVar 4)]) skipO)
 (seqO (ifO (dAndT (dTest (d2 eqD (dVar 3) (dC (.int 8)))) (dTest (d2 neD (dVar 7) (dVar 4)))) (seqO (st0N 8 (dVar 4) (mkFlat (dCat (dVar 5) (d2 ixD (dVar 0) (dVar 7)))))
 (m0 8 popF [(dVar 7)])) skipO)
 (seqO (ifO (dTest (d2 eqD (dVar 3) (dC (.int 9)))) (fzsO 8 (asgN 8 (mkL (dCat (mkL (dCat (mkFlat (dCut (dVar 8) dNoPart (dPart (dVar 4)))) (mkL (dArgs [(dFz (mkFlat (dCut (dVar 5) dNoPart (dPart (d2 addI (dVar 6) (dC (.int 1))))))), (dFz (mkFlat (dCut (dVar 5) (dPart (d2 addI (dVar 6) (dC (.int 1)))) dNoPart)))])))) (mkFlat (dCut (dVar 8) (dPart (d2 addI (dVar 4) (dC (.int 1)))) dNoPart)))))) skipO)
 (seqO (ifO (dTest (d2 eqD (dVar 3) (dC (.int 10)))) (seqO (asgI 9 (d2 modI (d2 divI (dVar 1) (dC (.int 5632))) (dCall lenF [(d2 ixD (dVar 0) (dVar 7))])))
 (seqO (st1 8 (dVar 4) (dVar 6) (d2 ixD (d2 ixD (dVar 0) (dVar 7)) (dVar 9)))
 (st1 8 (dVar 7) (dVar 9) (d2 ixD (dVar 5) (dVar 6))))) skipO)
 (fzsO 8 (retO 8)))))))))))))))))))
def m__law_spoiled : List D → Option D := runD 3 7 g__law_spoiled
def g__law_refused : SS → Option Out := (seqO (asgN 3 (mkFlat (dArgs [])))
 (seqO (asgI 4 (dC .non))
 (seqO (tryO (ifO (dTruth (dVar 2)) (asgX 4 (dCallX m_folded [(dVar 0), (dVar 1)])) (exprX (dCallX m_places_of [(dVar 1), (dCall lenF [(dVar 0)])]))) (fun c => match c with | 0 => fun _ => none | 1 => fun _ => none | 2 => fun _ => none | 3 => (asXO 5 "BadParts" (seqO (asgN 3 (mkFlat (dArgs [(d1 (isXF ["BadParts"] ["BadParts"]) (dVar 5)), (d1 (isXF ["BadParts"] ["BadParts"]) (dVar 5)), (d1 (isXF [] ["BadParts"]) (dVar 5))])))   (asgN 3 (mkFlat (dCat (dVar 3) (mkL (dArgs [(d1 (isXF [] ["BadParts"]) (dVar 5)), (d1 (isXF [] ["BadParts"]) (dVar 5))]))))))) | 4 => fun _ => none | _ + 5 => fun _ => none))
 (frzO 4 (frzO 3 (retS (mkL (dArgs [(dVar 3), (dVar 4)]))))))))
def m__law_refused : List D → Option D := runD 3 3 g__law_refused
def g__law_due : SS → Option Out := (seqO (ifO (dNotT (dTruth (dVar 2))) (retN (mkL (dArgs [(mkFlat (dArgs [(dC (.bl true)), (dC (.bl true)), (dC (.bl false)), (dC (.bl false)), (dC (.bl false))])), (mkImm (dC .non))]))) skipO)
 (seqO (ifO (dNotT (dTruth (dVar 3))) (retN (mkL (dArgs [(mkFlat (dArgs [])), (mkImm (dC .non))]))) skipO)
 (seqO (asgN 4 (mkFlat (dComp (dSeq (dVar 1)) dYes (d2 ixD (dVar 5) (dC (.int 0))))))
 (retN (mkL (dArgs [(mkFlat (dArgs [])), (mkL (dComp (dSeq (dVar 4)) dYes (mkFlat (dComp (dSeq (dVar 4)) dYes (d2 ixD (d2 ixD (dVar 0) (dVar 5)) (dVar 6))))))]))))))
def m__law_due : List D → Option D := runD 4 1 g__law_due
def g__law_good : SS → Option Out := (seqO (asgN 2 (mkFlat (dArgs [])))
 (seqO (forO 3 (dSeq (dVar 0)) (seqO (ifO (dTest (d2 eqD (dVar 3) (mkL (dArgs [])))) (retI (dC (.bl false))) skipO)
 (asgN 2 (mkFlat (dCatS (dVar 2) (dVar 3))))))
 (retI (d2 eqD (mkL (dCallL sortF [(dVar 2)])) (mkL (dSmall (dRng1 (dVar 1))))))))
def m__law_good : List D → Option D := runD 2 2 g__law_good
def g__law_all_together : SS → Option Out := (seqO (forO 2 (dSeq (dVar 1)) (ifO (dNotT (dTruth (dCall m__law_together [(dVar 0), (dVar 2)]))) (retI (dC (.bl false))) skipO))
 (retI (dC (.bl true))))
def m__law_all_together : List D → Option D := runD 2 1 g__law_all_together
def g_law : SS → Option Out := (seqO (asgS 1 (dCall m__law_mixed [(dVar 0)]))
 (seqO (asgS 2 (dCall m__law_table [(dVar 1)]))
 (seqO (forO 3 (dSeq (mkL (dCat (mkL (dArgs [(dC (.int 0))])) (mkL (dCut (dVar 0) dNoPart (dPart (dC (.int 30)))))))) (seqO (asgN 4 (dCall m__law_spoiled [(dCall m__law_pieces [(dVar 1)]), (dVar 3), (dCall lenF [(dVar 2)])]))
 (seqO (asgI 5 (dCall m__law_good [(dVar 4), (dCall lenF [(dVar 2)])]))
 (forO 6 (dSeq (mkL (dArgs [(dC (.bl false)), (dC (.bl true))]))) (seqO (asgN 7 (mkL (dArgs [(mkL (dComp (dSeq (dVar 2)) dYes (mkFlat (dCallL listF [(dVar 8)])))), (mkL (dComp (dSeq (dVar 4)) dYes (mkFlat (dCallL listF [(dVar 8)]))))])))
 (seqO (asgI 5 (dAnd (dVar 5) (dOr (d1 uNot (dVar 6)) (dCall m__law_all_together [(dVar 2), (dVar 4)]))))
 (seqO (ifO (dTest (d2 neD (dCall m__law_refused [(d2 ixD (dVar 7) (dC (.int 0))), (d2 ixD (dVar 7) (dC (.int 1))), (dVar 6)]) (dCall m__law_due [(dVar 2), (dVar 4), (dVar 5), (dVar 6)]))) (retI (dC (.bl false))) skipO)
 (ifO (dTest (d2 neD (dVar 7) (mkL (dArgs [(dVar 2), (dVar 4)])))) (retI (dC (.bl false))) skipO))))))))
 (retI (dC (.bl true))))))
def m_law : List D → Option D := runD 1 7 g_law
structure Txt (mg : Str → Option Value) : Prop where
 b_all : mg "all" = none
 b_any : mg "any" = none
 b_range : mg "range" = none
 b_len : mg "len" = none
 b_int : mg "int" = none
 b_isinstance : mg "isinstance" = none
 b_bool : mg "bool" = none
 b_enumerate : mg "enumerate" = none
 b_min : mg "min" = none
 b_list : mg "list" = none
 b_ValueError : mg "ValueError" = none
 b_sorted : mg "sorted" = none
structure Cls (K : PySem.W.Frag) (mg : Str → Option Value) (base : Heap) (cl : Nat → Value) : Prop where
 o_AskError : ∃ C, cl 0 = .ref C ∧ OwnCls "AskError" C bmVE "ValueError.__new__" mg base ∧ PySem.W.nsIn K mainGlobals "AskError" = some (some (.ref C)) ∧ xclsB K C = true
 o_BadBallot : ∃ C, cl 1 = .ref C ∧ OwnCls "BadBallot" C bmVE "ValueError.__new__" mg base ∧ PySem.W.nsIn K mainGlobals "BadBallot" = some (some (.ref C)) ∧ xclsB K C = true
 o_BadOrder : ∃ C, cl 2 = .ref C ∧ OwnCls "BadOrder" C bmVE "ValueError.__new__" mg base ∧ PySem.W.nsIn K mainGlobals "BadOrder" = some (some (.ref C)) ∧ xclsB K C = true
 o_BadParts : ∃ C, cl 3 = .ref C ∧ OwnCls "BadParts" C bmVE "ValueError.__new__" mg base ∧ PySem.W.nsIn K mainGlobals "BadParts" = some (some (.ref C)) ∧ xclsB K C = true
 o_NotAlike : ∃ C, cl 4 = .ref C ∧ OwnCls "NotAlike" C bmVE "ValueError.__new__" mg base ∧ PySem.W.nsIn K mainGlobals "NotAlike" = some (some (.ref C)) ∧ xclsB K C = true
 e_BadParts_AskError : ∀ C, cl 0 = .ref C → PySem.W.exmOne K (cl 3) (.ref C) = some true
 k_BadBallot : ∀ D, cl 1 = .ref D → ∀ x, x ∈ (["BadParts"] : List Str) → ∀ C, PySem.W.nsIn K mainGlobals x = some (some (.ref C)) → PySem.W.kitOne K (.ref C) (.ref D) = some (([] : List Str).contains x)
 k_NotAlike : ∀ D, cl 4 = .ref D → ∀ x, x ∈ (["BadParts"] : List Str) → ∀ C, PySem.W.nsIn K mainGlobals x = some (some (.ref C)) → PySem.W.kitOne K (.ref C) (.ref D) = some (([] : List Str).contains x)
 k_BadParts : ∀ D, cl 3 = .ref D → ∀ x, x ∈ (["BadParts"] : List Str) → ∀ C, PySem.W.nsIn K mainGlobals x = some (some (.ref C)) → PySem.W.kitOne K (.ref C) (.ref D) = some ((["BadParts"] : List Str).contains x)
 k_ValueError : ∀ x, x ∈ (["BadParts"] : List Str) → ∀ C, PySem.W.nsIn K mainGlobals x = some (some (.ref C)) → PySem.W.kitOne K (.ref C) (.type "ValueError") = some ((["BadParts"] : List Str).contains x)
 k_BadOrder : ∀ D, cl 2 = .ref D → ∀ x, x ∈ (["BadParts"] : List Str) → ∀ C, PySem.W.nsIn K mainGlobals x = some (some (.ref C)) → PySem.W.kitOne K (.ref C) (.ref D) = some (([] : List Str).contains x)
section
variable {P : Program} {w : World} {K : PySem.W.Frag} {mg : Str → Option Value} {base : Heap} {cl : Nat → Value}
theorem sc_picked : FnScope N_picked P_picked (defScope s_picked) := ⟨rfl, rfl, rfl, by decide +kernel, rfl, by decide +kernel, by decide +kernel⟩
theorem ok_picked {f : Addr} {fd : FuncData} (F : Fun K "picked" "picked" s_picked f fd) (hm : mg "picked" = some (.ref f)) (hb : Binds K fd P_picked []) (T : Txt mg) : DefOk P w K mg base 1 "picked" (spN K m_picked) :=
 defN (k := 0) (g := g_picked) F hm hb sc_picked rfl rfl fun cdv A outer s H E hr =>
  (ss_one (s_retN (pn_F (pf_comp (N' := ["row", "things", "other"])  rfl ⟨rfl, rfl, rfl, rfl, rfl⟩ (n := 2) rfl (pi_seqD (pd_v 1 (pv 1))) (fun _ _ _ _ _ => pg_name (i := 2) nd0 rfl (Or.inl rfl)) (fun _ _ _ _ _ => pifs_nilD) (fun _ _ _ _ _ => (pd_ix (pd_v 0 (pv 0)) (pd_v 2 (pv 2))))))))
theorem sc_part : FnScope N_part P_part (defScope s_part) := ⟨rfl, rfl, rfl, by decide +kernel, rfl, by decide +kernel, by decide +kernel⟩
theorem ok_part {f : Addr} {fd : FuncData} (F : Fun K "part" "part" s_part f fd) (hm : mg "part" = some (.ref f)) (hb : Binds K fd P_part []) (T : Txt mg) (G_picked : DefOk P w K mg base 1 "picked" (spN K m_picked)) : DefOk P w K mg base 2 "part" (spN K m_part) :=
 defN (k := 1) (g := g_part) F hm hb sc_part rfl rfl fun cdv A outer s H E hr =>
  (ss_one (s_retN (pn_comp (N' := ["table", "things", "one"])  rfl ⟨rfl, rfl, rfl, rfl, rfl⟩ (n := 2) rfl (pi_seqD (pd_v 1 (pv 1))) (fun _ _ _ _ _ => pg_name (i := 2) nd1 rfl (Or.inl rfl)) (fun _ _ _ _ _ => pifs_nilD) (fun _ _ _ _ _ => (pn_callN G_picked (hr.mono (by decide)) rfl (pad_cons (pd_ix (pd_v 0 (pv 0)) (pd_v 2 (pv 2))) (pad_cons (pd_v 1 (pv 1)) pad_nil)))))))
theorem sc_sees_as_one : FnScope N_sees_as_one P_sees_as_one (defScope s_sees_as_one) := ⟨rfl, rfl, rfl, by decide +kernel, rfl, by decide +kernel, by decide +kernel⟩
theorem ok_sees_as_one {f : Addr} {fd : FuncData} (F : Fun K "sees_as_one" "sees_as_one" s_sees_as_one f fd) (hm : mg "sees_as_one" = some (.ref f)) (hb : Binds K fd P_sees_as_one []) (T : Txt mg) : DefOk P w K mg base 1 "sees_as_one" (spN K m_sees_as_one) :=
 defN (k := 0) (g := g_sees_as_one) F hm hb sc_sees_as_one rfl rfl fun cdv A outer s H E hr =>
  (ss_cons (s_asgN (PAsg.imp (pas_cF (i := 3) (N' := ["table", "other", "things", "marks", "thing"]) sc_sees_as_one.nd rfl rfl rfl ⟨rfl, rfl, rfl, rfl, rfl⟩ (n := 4) rfl (pi_seqD (pd_v 2 (pv 2))) (fun _ _ _ _ _ => pg_name (i := 4) nd2 rfl (Or.inl rfl)) (fun _ _ _ _ _ => pifs_nilD) (fun _ _ _ _ _ => (pd_ix (pd_ix (pd_v 0 (pv 0)) (pd_v 1 (pv 1))) (pd_v 4 (pv 4))))) iNF))
   (ss_one (s_retI (pd_or (pd_all rfl rfl T.b_all (pd_v 3 (pv 3))) (pd_one (pd_not (pd_any rfl rfl T.b_any (pd_v 3 (pv 3)))))))))
theorem sc_parting : FnScope N_parting P_parting (defScope s_parting) := ⟨rfl, rfl, rfl, by decide +kernel, rfl, by decide +kernel, by decide +kernel⟩
theorem ok_parting {f : Addr} {fd : FuncData} (F : Fun K "parting" "parting" s_parting f fd) (hm : mg "parting" = some (.ref f)) (hb : Binds K fd P_parting []) (T : Txt mg) (G_sees_as_one : DefOk P w K mg base 1 "sees_as_one" (spN K m_sees_as_one)) : DefOk P w K mg base 2 "parting" (spN K m_parting) :=
 defN (k := 1) (g := g_parting) F hm hb sc_parting rfl rfl fun cdv A outer s H E hr =>
  (ss_one (s_retN (pn_F (pf_comp (N' := ["table", "things", "other"])  rfl ⟨rfl, rfl, rfl, rfl, rfl⟩ (n := 2) rfl (pi_rng1 rfl T.b_range (pd_len rfl T.b_len (pd_v 0 (pv 0)))) (fun _ _ _ _ _ => pg_name (i := 2) nd3 rfl (Or.inl rfl)) (fun _ _ _ _ _ => pifs_oneD (PW.pt (pw_andD (pt_nin hr.units (pd_v 2 (pv 2)) (pd_v 1 (pv 1))) (pw_and1D (pt_notD (pt_truthD (pd_N (pn_callN G_sees_as_one (hr.mono (by decide)) rfl (pad_cons (pd_v 0 (pv 0)) (pad_cons (pd_v 2 (pv 2)) (pad_cons (pd_v 1 (pv 1)) pad_nil))))))))))) (fun _ _ _ _ _ => (pd_v 2 (pv 2)))))))
theorem sc_stands_together : FnScope N_stands_together P_stands_together (defScope s_stands_together) := ⟨rfl, rfl, rfl, by decide +kernel, rfl, by decide +kernel, by decide +kernel⟩
theorem ok_stands_together {f : Addr} {fd : FuncData} (F : Fun K "stands_together" "stands_together" s_stands_together f fd) (hm : mg "stands_together" = some (.ref f)) (hb : Binds K fd P_stands_together []) (T : Txt mg) (G_parting : DefOk P w K mg base 2 "parting" (spN K m_parting)) : DefOk P w K mg base 3 "stands_together" (spN K m_stands_together) :=
 defN (k := 2) (g := g_stands_together) F hm hb sc_stands_together rfl rfl fun cdv A outer s H E hr =>
  (ss_one (s_retI (pd_eq hr.units (pd_len rfl T.b_len (pd_N (pn_callN G_parting (hr.mono (by decide)) rfl (pad_cons (pd_v 0 (pv 0)) (pad_cons (pd_v 1 (pv 1)) pad_nil))))) pd_int)))
theorem sc_is_thing : FnScope N_is_thing P_is_thing (defScope s_is_thing) := ⟨rfl, rfl, rfl, by decide +kernel, rfl, by decide +kernel, by decide +kernel⟩
theorem ok_is_thing {f : Addr} {fd : FuncData} (F : Fun K "is_thing" "is_thing" s_is_thing f fd) (hm : mg "is_thing" = some (.ref f)) (hb : Binds K fd P_is_thing []) (T : Txt mg) : DefOk P w K mg base 1 "is_thing" (spN K m_is_thing) :=
 defN (k := 0) (g := g_is_thing) F hm hb sc_is_thing rfl rfl fun cdv A outer s H E hr =>
  (ss_one (s_retI (pd_and (pd_isInt rfl T.b_int rfl T.b_isinstance (pd_v 0 (pv 0))) (pd_and (pd_not (pd_isBool rfl T.b_bool rfl T.b_isinstance (pd_v 0 (pv 0)))) (pd_one (pd_chain op_le op_lt o2_bool0 o2_bool0 pd_int (pd_v 0 (pv 0)) (pd_v 1 (pv 1))))))))
theorem sc_tells_each_once : FnScope N_tells_each_once P_tells_each_once (defScope s_tells_each_once) := ⟨rfl, rfl, rfl, by decide +kernel, rfl, by decide +kernel, by decide +kernel⟩
theorem ok_tells_each_once {f : Addr} {fd : FuncData} (F : Fun K "tells_each_once" "tells_each_once" s_tells_each_once f fd) (hm : mg "tells_each_once" = some (.ref f)) (hb : Binds K fd P_tells_each_once []) (T : Txt mg) (G_is_thing : DefOk P w K mg base 1 "is_thing" (spN K m_is_thing)) : DefOk P w K mg base 2 "tells_each_once" (spN K m_tells_each_once) :=
 defN (k := 1) (g := g_tells_each_once) F hm hb sc_tells_each_once rfl rfl fun cdv A outer s H E hr =>
  (ss_cons (s_if (pt_ne hr.units (pd_len rfl T.b_len (pd_v 0 (pv 0))) (pd_v 1 (pv 1))) (ss_one (s_retI pd_bl)) ss_nil)
   (ss_cons (s_asgN (pas_e (i := 2) sc_tells_each_once.nd rfl (Or.inl rfl) pn_dnew))
   (ss_cons (s_for PassesOwn.never rfl (pi_seqD (pd_v 0 (pv 0))) (pg_name (i := 3) sc_tells_each_once.nd rfl (Or.inl rfl)) (ss_cons (s_if (PW.pt (pw_orD (pt_notD (pt_truthD (pd_N (pn_callN G_is_thing (hr.mono (by decide)) rfl (pad_cons (pd_v 3 (pv 3)) (pad_cons (pd_v 1 (pv 1)) pad_nil)))))) (pw_or1D (pt_din hr.units (pd_v 3 (pv 3)) (pd_v 2 (pv 2)))))) (ss_one (s_retI pd_bl)) ss_nil)
   (ss_one (s_dput hr.units (pv 2) (pd_v 3 (pv 3)) pd_bl))))
   (ss_one (s_retI pd_bl)))))
theorem sc_places_of : FnScope N_places_of P_places_of (defScope s_places_of) := ⟨rfl, rfl, rfl, by decide +kernel, rfl, by decide +kernel, by decide +kernel⟩
theorem ok_places_of {f : Addr} {fd : FuncData} (F : Fun K "places_of" "places_of" s_places_of f fd) (hm : mg "places_of" = some (.ref f)) (hb : Binds K fd P_places_of []) (T : Txt mg) (Z : Cls K mg base cl) (G_tells_each_once : DefOk P w K mg base 2 "tells_each_once" (spN K m_tells_each_once)) : DefX P w K mg base 3 "places_of" (spX K cl m_places_of) := by
 obtain ⟨C_BadParts, hc_BadParts, O_BadParts, nn_BadParts, xb_BadParts⟩ := Z.o_BadParts
 exact ⟨f, fd, P_places_of, hm, F.kp, hb, fnX (k := 2) (g := g_places_of) F sc_places_of rfl rfl fun cdv A outer s H E hr =>
  (ss_cons (s_asgN (pas_e (i := 2) sc_places_of.nd rfl (Or.inl rfl) (pn_F (pf_list pad_nil))))
   (ss_cons (s_for PassesOwn.leaving rfl (pi_seqD (pd_v 0 (pv 0))) (pg_name (i := 3) sc_places_of.nd rfl (Or.inl rfl)) (ss_cons (s_if (pt_eq hr.units (pd_len rfl T.b_len (pd_v 3 (pv 3))) pd_int) (ss_one (s_raiseV (c := 3) rfl rfl O_BadParts (want_def hc_BadParts) pd_str)) ss_nil)
   (ss_one (s_extendD (pv 2) (pd_v 3 (pv 3))))))
   (ss_cons (s_if (pt_notD (pt_truthD (pd_N (pn_callN G_tells_each_once (hr.mono (by decide)) rfl (pad_cons (pd_v 2 (pv 2)) (pad_cons (pd_v 1 (pv 1)) pad_nil)))))) (ss_one (s_raiseV (c := 3) rfl rfl O_BadParts (want_def hc_BadParts) pd_str)) ss_nil)
   (ss_cons (s_asgN (pas_e (i := 4) sc_places_of.nd rfl (Or.inl rfl) (pn_F (pf_rep (pd_F (pf_list (pad_cons pd_int pad_nil))) (pd_v 1 (pv 1))))))
   (ss_cons (s_for2 PassesOwn.leaving rfl (pi_enumD rfl T.b_enumerate (pd_v 0 (pv 0))) (pg_pair rfl (pg_name (i := 5) sc_places_of.nd rfl (Or.inl rfl)) (pg_name (i := 3) sc_places_of.nd rfl (Or.inl rfl))) (ss_one (s_for PassesOwn.leaving rfl (pi_seqD (pd_v 3 (pv 3))) (pg_name (i := 6) sc_places_of.nd rfl (Or.inl rfl)) (ss_one (s_st0 (pv 4) (pd_v 6 (pv 6)) (pd_v 5 (pv 5)))))))
   (ss_one (s_retO (pv 4))))))))⟩
theorem sc_folded : FnScope N_folded P_folded (defScope s_folded) := ⟨rfl, rfl, rfl, by decide +kernel, rfl, by decide +kernel, by decide +kernel⟩
theorem ok_folded {f : Addr} {fd : FuncData} (F : Fun K "folded" "folded" s_folded f fd) (hm : mg "folded" = some (.ref f)) (hb : Binds K fd P_folded []) (T : Txt mg) (Z : Cls K mg base cl) (G_part : DefOk P w K mg base 2 "part" (spN K m_part)) (G_stands_together : DefOk P w K mg base 3 "stands_together" (spN K m_stands_together)) (G_places_of : DefX P w K mg base 3 "places_of" (spX K cl m_places_of)) : DefX P w K mg base 4 "folded" (spX K cl m_folded) := by
 obtain ⟨C_BadParts, hc_BadParts, O_BadParts, nn_BadParts, xb_BadParts⟩ := Z.o_BadParts
 exact ⟨f, fd, P_folded, hm, F.kp, hb, fnX (k := 3) (g := g_folded) F sc_folded rfl rfl fun cdv A outer s H E hr =>
  (ss_cons (s_exprX (px_call G_places_of (hr.mono (by decide)) rfl xw_def (pad_cons (pd_v 1 (pv 1)) (pad_cons (pd_len rfl T.b_len (pd_v 0 (pv 0))) pad_nil))))
   (ss_cons (s_if (pt_notD (pt_truthD (pd_all rfl rfl T.b_all (pd_N (pn_comp (N' := ["table", "pieces", "piece"])  rfl ⟨rfl, rfl, rfl, rfl, rfl⟩ (n := 2) rfl (pi_seqD (pd_v 1 (pv 1))) (fun _ _ _ _ _ => pg_name (i := 2) nd4 rfl (Or.inl rfl)) (fun _ _ _ _ _ => pifs_nilD) (fun _ _ _ _ _ => (pn_callN G_stands_together (hr.mono (by decide)) rfl (pad_cons (pd_v 0 (pv 0)) (pad_cons (pd_v 2 (pv 2)) pad_nil))))))))) (ss_one (s_raiseV (c := 3) rfl rfl O_BadParts (want_def hc_BadParts) pd_str)) ss_nil)
   (ss_one (s_retN (pn_callN G_part (hr.mono (by decide)) rfl (pad_cons (pd_v 0 (pv 0)) (pad_cons (pd_F (pf_comp (N' := ["table", "pieces", "piece"])  rfl ⟨rfl, rfl, rfl, rfl, rfl⟩ (n := 2) rfl (pi_seqD (pd_v 1 (pv 1))) (fun _ _ _ _ _ => pg_name (i := 2) nd4 rfl (Or.inl rfl)) (fun _ _ _ _ _ => pifs_nilD) (fun _ _ _ _ _ => (pd_ix (pd_v 2 (pv 2)) pd_int)))) pad_nil)))))))⟩
theorem sc__law_cell_at : FnScope N__law_cell_at P__law_cell_at (defScope s__law_cell_at) := ⟨rfl, rfl, rfl, by decide +kernel, rfl, by decide +kernel, by decide +kernel⟩
theorem ok__law_cell_at {f : Addr} {fd : FuncData} (F : Fun K "_law_cell_at" "_law_cell_at" s__law_cell_at f fd) (hm : mg "_law_cell_at" = some (.ref f)) (hb : Binds K fd P__law_cell_at []) (T : Txt mg) : DefOk P w K mg base 1 "_law_cell_at" (spN K m__law_cell_at) :=
 defN (k := 0) (g := g__law_cell_at) F hm hb sc__law_cell_at rfl rfl fun cdv A outer s H E hr =>
  (ss_cons (s_if (pt_lt (pd_v 1 (pv 1)) (pd_len rfl T.b_len (pd_v 0 (pv 0)))) (ss_one (s_retI (pd_ix (pd_v 0 (pv 0)) (pd_v 1 (pv 1))))) ss_nil)
   (ss_one (s_retI pd_int)))
theorem sc__law_table_by : FnScope N__law_table_by P__law_table_by (defScope s__law_table_by) := ⟨rfl, rfl, rfl, by decide +kernel, rfl, by decide +kernel, by decide +kernel⟩
theorem ok__law_table_by {f : Addr} {fd : FuncData} (F : Fun K "_law_table_by" "_law_table_by" s__law_table_by f fd) (hm : mg "_law_table_by" = some (.ref f)) (hb : Binds K fd P__law_table_by []) (T : Txt mg) : DefOk P w K mg base 1 "_law_table_by" (spN K m__law_table_by) :=
 defN (k := 0) (g := g__law_table_by) F hm hb sc__law_table_by rfl rfl fun cdv A outer s H E hr =>
  (ss_cons (s_asgN (pas_cN (i := 2) (N' := ["cell", "many", "rows", "rest", "one", "other", "k"]) sc__law_table_by.nd rfl rfl rfl ⟨rfl, rfl, rfl, rfl, rfl⟩ (n := 6) rfl (pi_rng1 rfl T.b_range (pd_v 1 (pv 1))) (fun _ _ _ _ _ => pg_name (i := 6) nd5 rfl (Or.inl rfl)) (fun _ _ _ _ _ => pifs_nilD) (fun _ _ _ _ _ => (pn_F (pf_rep (pd_F (pf_list (pad_cons pd_bl pad_nil))) (pd_v 1 (pv 1)))))))
   (ss_cons (s_asgI (pas_e (i := 3) sc__law_table_by.nd rfl (Or.inl rfl) (pd_mod (pd_mul (pd_v 0 (pv 0)) pd_int) pd_int)))
   (ss_cons (s_for PassesOwn.never rfl (pi_rng1 rfl T.b_range (pd_v 1 (pv 1))) (pg_name (i := 4) sc__law_table_by.nd rfl (Or.inl rfl)) (ss_one (s_for PassesOwn.never rfl (pi_rng2 rfl T.b_range (pd_add (pd_v 4 (pv 4)) pd_int) (pd_v 1 (pv 1))) (pg_name (i := 5) sc__law_table_by.nd rfl (Or.inl rfl)) (ss_cons (s_st1 (pv 2) (pd_v 4 (pv 4)) (pd_v 5 (pv 5)) (pd_eq hr.units (pd_mod (pd_v 3 (pv 3)) pd_int) pd_int))
   (ss_cons (s_st1 (pv 2) (pd_v 5 (pv 5)) (pd_v 4 (pv 4)) (pd_eq hr.units (pd_mod (pd_v 3 (pv 3)) pd_int) pd_int))
   (ss_one (s_asgI (pas_e (i := 3) sc__law_table_by.nd rfl (Or.inl rfl) (pd_div (pd_v 3 (pv 3)) pd_int)))))))))
   (ss_one (s_retO (pv 2))))))
theorem sc__law_mixed : FnScope N__law_mixed P__law_mixed (defScope s__law_mixed) := ⟨rfl, rfl, rfl, by decide +kernel, rfl, by decide +kernel, by decide +kernel⟩
theorem ok__law_mixed {f : Addr} {fd : FuncData} (F : Fun K "_law_mixed" "_law_mixed" s__law_mixed f fd) (hm : mg "_law_mixed" = some (.ref f)) (hb : Binds K fd P__law_mixed []) (T : Txt mg) (G__law_cell_at : DefOk P w K mg base 1 "_law_cell_at" (spN K m__law_cell_at)) (G__law_table_by : DefOk P w K mg base 1 "_law_table_by" (spN K m__law_table_by)) : DefOk P w K mg base 2 "_law_mixed" (spN K m__law_mixed) :=
 defN (k := 1) (g := g__law_mixed) F hm hb sc__law_mixed rfl rfl fun cdv A outer s H E hr =>
  (ss_cons (s_asgI (pas_e (i := 1) sc__law_mixed.nd rfl (Or.inl rfl) (pd_add pd_int (pd_mod (pd_N (pn_callN G__law_cell_at (hr.mono (by decide)) rfl (pad_cons (pd_v 0 (pv 0)) (pad_cons pd_int pad_nil)))) pd_int))))
   (ss_cons (s_if (pt_eq hr.units (pd_mod (pd_div (pd_N (pn_callN G__law_cell_at (hr.mono (by decide)) rfl (pad_cons (pd_v 0 (pv 0)) (pad_cons pd_int pad_nil)))) pd_int) pd_int) pd_int) (ss_one (s_asgI (pas_e (i := 1) sc__law_mixed.nd rfl (Or.inl rfl) (pd_add (pd_v 1 (pv 1)) pd_int)))) ss_nil)
   (ss_cons (s_asgN (pas_e (i := 2) sc__law_mixed.nd rfl (Or.inl rfl) (pn_callN G__law_table_by (hr.mono (by decide)) rfl (pad_cons (pd_N (pn_callN G__law_cell_at (hr.mono (by decide)) rfl (pad_cons (pd_v 0 (pv 0)) (pad_cons pd_int pad_nil)))) (pad_cons (pd_v 1 (pv 1)) pad_nil)))))
   (ss_cons (s_asgN (pas_e (i := 3) sc__law_mixed.nd rfl (Or.inl rfl) (pn_F (pf_list pad_nil))))
   (ss_cons (s_asgN (pas_e (i := 4) sc__law_mixed.nd rfl (Or.inl rfl) (pn_F (pf_list pad_nil))))
   (ss_cons (s_forI PassesOwn.never rfl (pif_rng1 rfl T.b_range (pd_len rfl T.b_len (pd_v 2 (pv 2)))) (pg_name (i := 5) sc__law_mixed.nd rfl (Or.inl rfl)) (ss_cons (s_asgN (pas_e (i := 6) sc__law_mixed.nd rfl (Or.inl rfl) (pn_callN G__law_cell_at (hr.mono (by decide)) rfl (pad_cons (pd_v 0 (pv 0)) (pad_cons (pd_add pd_int (pd_v 5 (pv 5))) pad_nil)))))
   (ss_cons (s_asgI (pas_e (i := 7) sc__law_mixed.nd rfl (Or.inl rfl) (pd_add (pd_sub (pd_sub pd_int (pd_len rfl T.b_len (pd_v 4 (pv 4)))) (pd_len rfl T.b_len (pd_v 2 (pv 2)))) (pd_v 5 (pv 5)))))
   (ss_cons (s_asgI (pas_e (i := 8) sc__law_mixed.nd rfl (Or.inl rfl) (pd_ix (pd_F (pf_list (pad_cons pd_int (pad_cons (pd_min2 rfl rfl T.b_min pd_int (pd_v 7 (pv 7))) (pad_cons (pd_add pd_int (pd_mod (pd_div (pd_v 6 (pv 6)) pd_int) (pd_v 7 (pv 7)))) pad_nil))))) (pd_min2 rfl rfl T.b_min (pd_mod (pd_v 6 (pv 6)) pd_int) pd_int))))
   (ss_cons (s_appendN (pv 3) (pn_callN G__law_table_by (hr.mono (by decide)) rfl (pad_cons (pd_div (pd_v 6 (pv 6)) pd_int) (pad_cons (pd_v 8 (pv 8)) pad_nil))))
   (ss_one (s_for PassesOwn.never rfl (pi_rng1 rfl T.b_range (pd_v 8 (pv 8))) (pg_name (i := 9) sc__law_mixed.nd rfl (Or.inl rfl)) (ss_cons (s_asgI (pas_e (i := 10) sc__law_mixed.nd rfl (Or.inl rfl) (pd_mod (pd_N (pn_callN G__law_cell_at (hr.mono (by decide)) rfl (pad_cons (pd_v 0 (pv 0)) (pad_cons (pd_add pd_int (pd_len rfl T.b_len (pd_v 4 (pv 4)))) pad_nil)))) (pd_add (pd_len rfl T.b_len (pd_v 4 (pv 4))) pd_int))))
   (ss_one (s_m0 PySem.F.slot_list_insert PySem.F.type_list_insert mt_insert lm_insert (pv 4) (pad_cons (pd_v 10 (pv 10)) (pad_cons (pd_tup (pad_cons (pd_v 5 (pv 5)) (pad_cons (pd_v 9 (pv 9)) pad_nil))) pad_nil))))))))))))
   (ss_one (s_ret3 (by decide) (by decide) (by decide) (pv 2) (pv 3) (pv 4)))))))))
theorem sc__law_beats : FnScope N__law_beats P__law_beats (defScope s__law_beats) := ⟨rfl, rfl, rfl, by decide +kernel, rfl, by decide +kernel, by decide +kernel⟩
theorem ok__law_beats {f : Addr} {fd : FuncData} (F : Fun K "_law_beats" "_law_beats" s__law_beats f fd) (hm : mg "_law_beats" = some (.ref f)) (hb : Binds K fd P__law_beats []) (T : Txt mg) : DefOk P w K mg base 1 "_law_beats" (spN K m__law_beats) :=
 defN (k := 0) (g := g__law_beats) F hm hb sc__law_beats rfl rfl fun cdv A outer s H E hr =>
  (ss_cons (s_if (pt_eq hr.units (pd_ix (pd_v 1 (pv 1)) pd_int) (pd_ix (pd_v 2 (pv 2)) pd_int)) (ss_one (s_retI (pd_ix (pd_ix (pd_ix (pd_ix (pd_v 0 (pv 0)) pd_int) (pd_ix (pd_v 1 (pv 1)) pd_int)) (pd_ix (pd_v 1 (pv 1)) pd_int)) (pd_ix (pd_v 2 (pv 2)) pd_int)))) ss_nil)
   (ss_one (s_retI (pd_ix (pd_ix (pd_ix (pd_v 0 (pv 0)) pd_int) (pd_ix (pd_v 1 (pv 1)) pd_int)) (pd_ix (pd_v 2 (pv 2)) pd_int)))))
theorem sc__law_table : FnScope N__law_table P__law_table (defScope s__law_table) := ⟨rfl, rfl, rfl, by decide +kernel, rfl, by decide +kernel, by decide +kernel⟩
theorem ok__law_table {f : Addr} {fd : FuncData} (F : Fun K "_law_table" "_law_table" s__law_table f fd) (hm : mg "_law_table" = some (.ref f)) (hb : Binds K fd P__law_table []) (T : Txt mg) (G__law_beats : DefOk P w K mg base 1 "_law_beats" (spN K m__law_beats)) : DefOk P w K mg base 2 "_law_table" (spN K m__law_table) :=
 defN (k := 1) (g := g__law_table) F hm hb sc__law_table rfl rfl fun cdv A outer s H E hr =>
  (ss_cons (s_asgN (pas_e (i := 1) sc__law_table.nd rfl (Or.inl rfl) (pn_F (pf_list pad_nil))))
   (ss_cons (s_for PassesOwn.never rfl (pi_seqD (pd_ix (pd_v 0 (pv 0)) pd_int)) (pg_name (i := 2) sc__law_table.nd rfl (Or.inr rfl)) (ss_one (s_appendN (pv 1) (pn_comp (N' := ["mixed", "rows", "one", "other"])  rfl ⟨rfl, rfl, rfl, rfl, rfl⟩ (n := 3) rfl (pi_seqD (pd_ix (pd_v 0 (pv 0)) pd_int)) (fun _ _ _ _ _ => pg_name (i := 3) nd6 rfl (Or.inl rfl)) (fun _ _ _ _ _ => pifs_nilD) (fun _ _ _ _ _ => (pn_callN G__law_beats (hr.mono (by decide)) rfl (pad_cons (pd_v 0 (pv 0)) (pad_cons (pd_v 2 (pv 2)) (pad_cons (pd_v 3 (pv 3)) pad_nil)))))))))
   (ss_one (s_retO (pv 1)))))
theorem sc__law_pieces : FnScope N__law_pieces P__law_pieces (defScope s__law_pieces) := ⟨rfl, rfl, rfl, by decide +kernel, rfl, by decide +kernel, by decide +kernel⟩
theorem ok__law_pieces {f : Addr} {fd : FuncData} (F : Fun K "_law_pieces" "_law_pieces" s__law_pieces f fd) (hm : mg "_law_pieces" = some (.ref f)) (hb : Binds K fd P__law_pieces []) (T : Txt mg) : DefOk P w K mg base 1 "_law_pieces" (spN K m__law_pieces) :=
 defN (k := 0) (g := g__law_pieces) F hm hb sc__law_pieces rfl rfl fun cdv A outer s H E hr =>
  (ss_cons (s_asgN (pas_e (i := 1) sc__law_pieces.nd rfl (Or.inl rfl) (pn_F (pf_list pad_nil))))
   (ss_cons (s_forI PassesOwn.never rfl (pif_rng1 rfl T.b_range (pd_len rfl T.b_len (pd_ix (pd_v 0 (pv 0)) pd_int))) (pg_name (i := 2) sc__law_pieces.nd rfl (Or.inr rfl)) (ss_one (s_appendN (pv 1) (pn_F (pf_comp (N' := ["mixed", "pieces", "k", "thing"])  rfl ⟨rfl, rfl, rfl, rfl, rfl⟩ (n := 3) rfl (pi_rng1 rfl T.b_range (pd_len rfl T.b_len (pd_ix (pd_v 0 (pv 0)) pd_int))) (fun _ _ _ _ _ => pg_name (i := 3) nd7 rfl (Or.inl rfl)) (fun _ _ _ _ _ => pifs_oneD (pt_eq hr.units (pd_ix (pd_ix (pd_ix (pd_v 0 (pv 0)) pd_int) (pd_v 3 (pv 3))) pd_int) (pd_v 2 (pv 2)))) (fun _ _ _ _ _ => (pd_v 3 (pv 3))))))))
   (ss_one (s_retO (pv 1)))))
theorem sc__law_breaks : FnScope N__law_breaks P__law_breaks (defScope s__law_breaks) := ⟨rfl, rfl, rfl, by decide +kernel, rfl, by decide +kernel, by decide +kernel⟩
theorem ok__law_breaks {f : Addr} {fd : FuncData} (F : Fun K "_law_breaks" "_law_breaks" s__law_breaks f fd) (hm : mg "_law_breaks" = some (.ref f)) (hb : Binds K fd P__law_breaks []) (T : Txt mg) : DefOk P w K mg base 1 "_law_breaks" (spN K m__law_breaks) :=
 defN (k := 0) (g := g__law_breaks) F hm hb sc__law_breaks rfl rfl fun cdv A outer s H E hr =>
  (ss_cons (s_if (pt_inS hr.units (pd_v 2 (pv 2)) (pd_v 1 (pv 1))) (ss_one (s_retI pd_bl)) ss_nil)
   (ss_cons (s_asgN (PAsg.imp (pas_cF (i := 3) (N' := ["table", "things", "other", "beaten", "one"]) sc__law_breaks.nd rfl rfl rfl ⟨rfl, rfl, rfl, rfl, rfl⟩ (n := 4) rfl (pi_seqD (pd_v 1 (pv 1))) (fun _ _ _ _ _ => pg_name (i := 4) nd8 rfl (Or.inl rfl)) (fun _ _ _ _ _ => pifs_oneD (pt_truthD (pd_ix (pd_ix (pd_v 0 (pv 0)) (pd_v 2 (pv 2))) (pd_v 4 (pv 4))))) (fun _ _ _ _ _ => (pd_v 4 (pv 4)))) iNF))
   (ss_one (s_retI (pd_and (pd_gt (pd_len rfl T.b_len (pd_v 3 (pv 3))) pd_int) (pd_one (pd_lt (pd_len rfl T.b_len (pd_v 3 (pv 3))) (pd_len rfl T.b_len (pd_v 1 (pv 1))))))))))
theorem sc__law_together : FnScope N__law_together P__law_together (defScope s__law_together) := ⟨rfl, rfl, rfl, by decide +kernel, rfl, by decide +kernel, by decide +kernel⟩
theorem ok__law_together {f : Addr} {fd : FuncData} (F : Fun K "_law_together" "_law_together" s__law_together f fd) (hm : mg "_law_together" = some (.ref f)) (hb : Binds K fd P__law_together []) (T : Txt mg) (G__law_breaks : DefOk P w K mg base 1 "_law_breaks" (spN K m__law_breaks)) : DefOk P w K mg base 2 "_law_together" (spN K m__law_together) :=
 defN (k := 1) (g := g__law_together) F hm hb sc__law_together rfl rfl fun cdv A outer s H E hr =>
  (ss_cons (s_for PassesOwn.never rfl (pi_rng1 rfl T.b_range (pd_len rfl T.b_len (pd_v 0 (pv 0)))) (pg_name (i := 2) sc__law_together.nd rfl (Or.inl rfl)) (ss_one (s_if (pt_truthD (pd_N (pn_callN G__law_breaks (hr.mono (by decide)) rfl (pad_cons (pd_v 0 (pv 0)) (pad_cons (pd_v 1 (pv 1)) (pad_cons (pd_v 2 (pv 2)) pad_nil)))))) (ss_one (s_retI pd_bl)) ss_nil)))
   (ss_one (s_retI pd_bl)))
theorem sc__law_any : FnScope N__law_any P__law_any (defScope s__law_any) := ⟨rfl, rfl, rfl, by decide +kernel, rfl, by decide +kernel, by decide +kernel⟩
theorem ok__law_any {f : Addr} {fd : FuncData} (F : Fun K "_law_any" "_law_any" s__law_any f fd) (hm : mg "_law_any" = some (.ref f)) (hb : Binds K fd P__law_any []) (T : Txt mg) : DefOk P w K mg base 1 "_law_any" (spN K m__law_any) :=
 defN (k := 0) (g := g__law_any) F hm hb sc__law_any rfl rfl fun cdv A outer s H E hr =>
  (ss_cons (s_asgN (pas_cN (i := 2) (N' := ["cell", "many", "pieces", "3", "k"]) sc__law_any.nd rfl rfl rfl ⟨rfl, rfl, rfl, rfl, rfl⟩ (n := 4) rfl (pi_rng1 rfl T.b_range (pd_mod (pd_v 0 (pv 0)) pd_int)) (fun _ _ _ _ _ => pg_name (i := 4) nd9 rfl (Or.inl rfl)) (fun _ _ _ _ _ => pifs_nilD) (fun _ _ _ _ _ => (pn_F (pf_list pad_nil)))))
   (ss_cons (s_asgI (pas_e (i := 0) sc__law_any.nd rfl (Or.inl rfl) (pd_div (pd_v 0 (pv 0)) pd_int)))
   (ss_cons (s_for PassesOwn.never rfl (pi_rng1 rfl T.b_range (pd_mod (pd_v 0 (pv 0)) pd_int)) (pg_name (i := 3) sc__law_any.nd rfl (Or.inl rfl)) (ss_cons (s_asgI (pas_e (i := 0) sc__law_any.nd rfl (Or.inl rfl) (pd_div (pd_v 0 (pv 0)) pd_int)))
   (ss_cons (s_if (pt_gt (pd_len rfl T.b_len (pd_v 2 (pv 2))) pd_int) (ss_one (s_m1 PySem.F.slot_list_append PySem.F.type_list_append mt_append lm_append (pv 2) (pd_mod (pd_v 0 (pv 0)) (pd_len rfl T.b_len (pd_v 2 (pv 2)))) (pad_cons (pd_sub (pd_mod (pd_div (pd_v 0 (pv 0)) pd_int) (pd_add (pd_v 1 (pv 1)) pd_int)) pd_int) pad_nil))) ss_nil)
   (ss_one (s_asgI (pas_e (i := 0) sc__law_any.nd rfl (Or.inl rfl) (pd_div (pd_v 0 (pv 0)) pd_int)))))))
   (ss_one (s_fzs 2 (s_retO (pv 2)))))))
theorem sc__law_spoiled : FnScope N__law_spoiled P__law_spoiled (defScope s__law_spoiled) := ⟨rfl, rfl, rfl, by decide +kernel, rfl, by decide +kernel, by decide +kernel⟩
theorem ok__law_spoiled {f : Addr} {fd : FuncData} (F : Fun K "_law_spoiled" "_law_spoiled" s__law_spoiled f fd) (hm : mg "_law_spoiled" = some (.ref f)) (hb : Binds K fd P__law_spoiled []) (T : Txt mg) (G__law_any : DefOk P w K mg base 1 "_law_any" (spN K m__law_any)) : DefOk P w K mg base 2 "_law_spoiled" (spN K m__law_spoiled) :=
 defN (k := 1) (g := g__law_spoiled) F hm hb sc__law_spoiled rfl rfl fun cdv A outer s H E hr =>
  (ss_cons (s_asgI (pas_e (i := 3) sc__law_spoiled.nd rfl (Or.inl rfl) (pd_mod (pd_v 1 (pv 1)) pd_int)))
   (ss_cons (s_if (pt_eq hr.units (pd_v 3 (pv 3)) pd_int) (ss_one (s_retN (pn_callN G__law_any (hr.mono (by decide)) rfl (pad_cons (pd_div (pd_v 1 (pv 1)) pd_int) (pad_cons (pd_v 2 (pv 2)) pad_nil))))) ss_nil)
   (ss_cons (s_asgI (pas_e (i := 4) sc__law_spoiled.nd rfl (Or.inl rfl) (pd_mod (pd_div (pd_v 1 (pv 1)) pd_int) (pd_len rfl T.b_len (pd_v 0 (pv 0))))))
   (ss_cons (s_asgS (pas_e (i := 5) sc__law_spoiled.nd rfl (Or.inl rfl) (pd_ix (pd_v 0 (pv 0)) (pd_v 4 (pv 4)))))
   (ss_cons (s_asgI (pas_e (i := 6) sc__law_spoiled.nd rfl (Or.inl rfl) (pd_mod (pd_div (pd_v 1 (pv 1)) pd_int) (pd_len rfl T.b_len (pd_v 5 (pv 5))))))
   (ss_cons (s_asgI (pas_e (i := 7) sc__law_spoiled.nd rfl (Or.inl rfl) (pd_mod (pd_div (pd_v 1 (pv 1)) pd_int) (pd_len rfl T.b_len (pd_v 0 (pv 0))))))
   (ss_cons (s_asgN (pas_cN (i := 8) (N' := ["pieces", "cell", "many", "fault", "at", "piece", "j", "other", "spoiled", "i", "one"]) sc__law_spoiled.nd rfl rfl rfl ⟨rfl, rfl, rfl, rfl, rfl⟩ (n := 10) rfl (pi_seqD (pd_v 0 (pv 0))) (fun _ _ _ _ _ => pg_name (i := 10) nd10 rfl (Or.inl rfl)) (fun _ _ _ _ _ => pifs_nilD) (fun _ _ _ _ _ => (pn_F (pf_listOf rfl T.b_list (pd_v 10 (pv 10)))))))
   (ss_cons (s_if (pt_eq hr.units (pd_v 3 (pv 3)) pd_int) (ss_one (s_m1 PySem.F.slot_list_pop PySem.F.type_list_pop mt_popAt lm_pop (pv 8) (pd_v 4 (pv 4)) (pad_cons (pd_v 6 (pv 6)) pad_nil))) ss_nil)
   (ss_cons (s_if (pt_eq hr.units (pd_v 3 (pv 3)) pd_int) (ss_one (s_m1 PySem.F.slot_list_insert PySem.F.type_list_insert mt_insert lm_insert (pv 8) (pd_v 4 (pv 4)) (pad_cons (pd_mod (pd_div (pd_v 1 (pv 1)) pd_int) (pd_add (pd_len rfl T.b_len (pd_v 5 (pv 5))) pd_int)) (pad_cons (pd_ix (pd_v 5 (pv 5)) (pd_v 6 (pv 6))) pad_nil)))) ss_nil)
   (ss_cons (s_if (pt_eq hr.units (pd_v 3 (pv 3)) pd_int) (ss_one (s_m1 PySem.F.slot_list_append PySem.F.type_list_append mt_append lm_append (pv 8) (pd_v 7 (pv 7)) (pad_cons (pd_ix (pd_v 5 (pv 5)) (pd_v 6 (pv 6))) pad_nil))) ss_nil)
   (ss_cons (s_if (pt_eq hr.units (pd_v 3 (pv 3)) pd_int) (ss_one (s_st1 (pv 8) (pd_v 4 (pv 4)) (pd_v 6 (pv 6)) (pd_sub (pd_sub pd_int pd_int) (pd_ix (pd_v 5 (pv 5)) (pd_v 6 (pv 6)))))) ss_nil)
   (ss_cons (s_if (pt_eq hr.units (pd_v 3 (pv 3)) pd_int) (ss_one (s_m1 PySem.F.slot_list_append PySem.F.type_list_append mt_append lm_append (pv 8) (pd_v 4 (pv 4)) (pad_cons (pd_add (pd_v 2 (pv 2)) (pd_mod (pd_div (pd_v 1 (pv 1)) pd_int) pd_int)) pad_nil))) ss_nil)
   (ss_cons (s_if (pt_eq hr.units (pd_v 3 (pv 3)) pd_int) (ss_one (s_insertN (pv 8) (pd_mod (pd_div (pd_v 1 (pv 1)) pd_int) (pd_add (pd_len rfl T.b_len (pd_v 0 (pv 0))) pd_int)) (pn_F (pf_list pad_nil)))) ss_nil)
   (ss_cons (s_if (pt_eq hr.units (pd_v 3 (pv 3)) pd_int) (ss_one (s_m0 PySem.F.slot_list_pop PySem.F.type_list_pop mt_popAt lm_pop (pv 8) (pad_cons (pd_v 4 (pv 4)) pad_nil))) ss_nil)
   (ss_cons (s_if (PW.pt (pw_andD (pt_eq hr.units (pd_v 3 (pv 3)) pd_int) (pw_and1D (pt_ne hr.units (pd_v 7 (pv 7)) (pd_v 4 (pv 4)))))) (ss_cons (s_st0N (pv 8) (pd_v 4 (pv 4)) (pn_F (pf_cat (pd_v 5 (pv 5)) (pd_ix (pd_v 0 (pv 0)) (pd_v 7 (pv 7))))))
   (ss_one (s_m0 PySem.F.slot_list_pop PySem.F.type_list_pop mt_popAt lm_pop (pv 8) (pad_cons (pd_v 7 (pv 7)) pad_nil)))) ss_nil)
   (ss_cons (s_if (pt_eq hr.units (pd_v 3 (pv 3)) pd_int) (ss_one (s_fzs 8 (s_asgN (pas_e (i := 8) sc__law_spoiled.nd rfl (Or.inl rfl) (pn_cat (pn_cat (pn_F (pf_slice (pd_v 8 (pv 8)) po_noneD (po_someD (pd_v 4 (pv 4))))) (pn_list (pan_cons (pn_fz (pn_F (pf_slice (pd_v 5 (pv 5)) po_noneD (po_someD (pd_add (pd_v 6 (pv 6)) pd_int))))) (pan_cons (pn_fz (pn_F (pf_slice (pd_v 5 (pv 5)) (po_someD (pd_add (pd_v 6 (pv 6)) pd_int)) po_noneD))) pan_nil)))) (pn_F (pf_slice (pd_v 8 (pv 8)) (po_someD (pd_add (pd_v 4 (pv 4)) pd_int)) po_noneD))))))) ss_nil)
   (ss_cons (s_if (pt_eq hr.units (pd_v 3 (pv 3)) pd_int) (ss_cons (s_asgI (pas_e (i := 9) sc__law_spoiled.nd rfl (Or.inl rfl) (pd_mod (pd_div (pd_v 1 (pv 1)) pd_int) (pd_len rfl T.b_len (pd_ix (pd_v 0 (pv 0)) (pd_v 7 (pv 7)))))))
   (ss_cons (s_st1 (pv 8) (pd_v 4 (pv 4)) (pd_v 6 (pv 6)) (pd_ix (pd_ix (pd_v 0 (pv 0)) (pd_v 7 (pv 7))) (pd_v 9 (pv 9))))
   (ss_one (s_st1 (pv 8) (pd_v 7 (pv 7)) (pd_v 9 (pv 9)) (pd_ix (pd_v 5 (pv 5)) (pd_v 6 (pv 6))))))) ss_nil)
   (ss_one (s_fzs 8 (s_retO (pv 8)))))))))))))))))))))
theorem sc__law_refused : FnScope N__law_refused P__law_refused (defScope s__law_refused) := ⟨rfl, rfl, rfl, by decide +kernel, rfl, by decide +kernel, by decide +kernel⟩
theorem ok__law_refused {f : Addr} {fd : FuncData} (F : Fun K "_law_refused" "_law_refused" s__law_refused f fd) (hm : mg "_law_refused" = some (.ref f)) (hb : Binds K fd P__law_refused []) (T : Txt mg) (Z : Cls K mg base cl) (G_places_of : DefX P w K mg base 3 "places_of" (spX K cl m_places_of)) (G_folded : DefX P w K mg base 4 "folded" (spX K cl m_folded)) : DefOk P w K mg base 5 "_law_refused" (spR K m__law_refused) := by
 obtain ⟨C_AskError, hc_AskError, O_AskError, nn_AskError, xb_AskError⟩ := Z.o_AskError
 obtain ⟨C_BadBallot, hc_BadBallot, O_BadBallot, nn_BadBallot, xb_BadBallot⟩ := Z.o_BadBallot
 obtain ⟨C_BadOrder, hc_BadOrder, O_BadOrder, nn_BadOrder, xb_BadOrder⟩ := Z.o_BadOrder
 obtain ⟨C_BadParts, hc_BadParts, O_BadParts, nn_BadParts, xb_BadParts⟩ := Z.o_BadParts
 obtain ⟨C_NotAlike, hc_NotAlike, O_NotAlike, nn_NotAlike, xb_NotAlike⟩ := Z.o_NotAlike
 exact defR (k := 4) (g := g__law_refused) F hm hb sc__law_refused rfl rfl fun cdv A outer s H E B hr =>
  (ss_cons (s_asgN (pas_e (i := 3) sc__law_refused.nd rfl (Or.inl rfl) (pn_F (pf_list pad_nil))))
   (ss_cons (s_asgI (pas_e (i := 4) sc__law_refused.nd rfl (Or.inl rfl) pd_non))
   (ss_cons (s_try (gh := (fun c => match c with | 0 => fun _ => none | 1 => fun _ => none | 2 => fun _ => none | 3 => (asXO 5 "BadParts" (seqO (asgN 3 (mkFlat (dArgs [(d1 (isXF ["BadParts"] ["BadParts"]) (dVar 5)), (d1 (isXF ["BadParts"] ["BadParts"]) (dVar 5)), (d1 (isXF [] ["BadParts"]) (dVar 5))])))   (asgN 3 (mkFlat (dCat (dVar 3) (mkL (dArgs [(d1 (isXF [] ["BadParts"]) (dVar 5)), (d1 (isXF [] ["BadParts"]) (dVar 5))]))))))) | 4 => fun _ => none | _ + 5 => fun _ => none)) rfl rfl (fun pn xe RX' hW => (ss_one (s_if (pt_truthD (pd_v 2 (pv 2))) (ss_one (s_asgX (pas_e (i := 4) sc__law_refused.nd rfl (Or.inl rfl) (px_call G_folded (hr.mono (by decide)) rfl hW (pad_cons (pd_v 0 (pv 0)) (pad_cons (pd_v 1 (pv 1)) pad_nil)))))) (ss_one (s_exprX (px_call G_places_of (hr.mono (by decide)) rfl hW (pad_cons (pd_v 1 (pv 1)) (pad_cons (pd_len rfl T.b_len (pd_v 0 (pv 0))) pad_nil)))))))) (fun c => match c with | 0 => ph_never (fun _ => rfl) | 1 => ph_never (fun _ => rfl) | 2 => ph_never (fun _ => rfl) | 3 => (by rw [hc_BadParts]; exact ph_asS (i := 5) nn_BadParts xb_BadParts rfl O_AskError.bound (by have z := Z.e_BadParts_AskError _ hc_AskError; rw [hc_BadParts] at z; exact z) sc__law_refused.nd rfl rfl (fun _ => (ss_cons (s_asgN (pas_e (i := 3) sc__law_refused.nd rfl (Or.inl rfl) (pn_F (pf_list (pad_cons (pd_isXr rfl O_BadParts.bound (Z.k_BadParts _ hc_BadParts) rfl T.b_isinstance (pd_v 5 (pv 5))) (pad_cons (pd_isXt (T := "ValueError") rfl T.b_ValueError (by kernel_rfl) Z.k_ValueError rfl T.b_isinstance (pd_v 5 (pv 5))) (pad_cons (pd_isXr rfl O_BadOrder.bound (Z.k_BadOrder _ hc_BadOrder) rfl T.b_isinstance (pd_v 5 (pv 5))) pad_nil)))))))       (ss_one (s_asgN (pas_e (i := 3) sc__law_refused.nd rfl (Or.inl rfl) (pn_F (pf_cat (pd_v 3 (pv 3)) (pd_F (pf_list (pad_cons (pd_isXr rfl O_BadBallot.bound (Z.k_BadBallot _ hc_BadBallot) rfl T.b_isinstance (pd_v 5 (pv 5))) (pad_cons (pd_isXr rfl O_NotAlike.bound (Z.k_NotAlike _ hc_NotAlike) rfl T.b_isinstance (pd_v 5 (pv 5))) pad_nil)))))))))))) | 4 => ph_never (fun _ => rfl) | _ + 5 => ph_never (fun _ => rfl)))
   (ss_one (s_frz 4 (s_frz 3 (s_retS (pd_F (pf_list (pad_cons (pd_v 3 (pv 3)) (pad_cons (pd_v 4 (pv 4)) pad_nil)))))))))))
theorem sc__law_due : FnScope N__law_due P__law_due (defScope s__law_due) := ⟨rfl, rfl, rfl, by decide +kernel, rfl, by decide +kernel, by decide +kernel⟩
theorem ok__law_due {f : Addr} {fd : FuncData} (F : Fun K "_law_due" "_law_due" s__law_due f fd) (hm : mg "_law_due" = some (.ref f)) (hb : Binds K fd P__law_due []) (T : Txt mg) : DefOk P w K mg base 1 "_law_due" (spN K m__law_due) :=
 defN (k := 0) (g := g__law_due) F hm hb sc__law_due rfl rfl fun cdv A outer s H E hr =>
  (ss_cons (s_if (pt_notD (pt_truthD (pd_v 2 (pv 2)))) (ss_one (s_retN (pn_list (pan_cons (pn_F (pf_list (pad_cons pd_bl (pad_cons pd_bl (pad_cons pd_bl (pad_cons pd_bl (pad_cons pd_bl pad_nil))))))) (pan_cons (pn_I pd_non) pan_nil))))) ss_nil)
   (ss_cons (s_if (pt_notD (pt_truthD (pd_v 3 (pv 3)))) (ss_one (s_retN (pn_list (pan_cons (pn_F (pf_list pad_nil)) (pan_cons (pn_I pd_non) pan_nil))))) ss_nil)
   (ss_cons (s_asgN (pas_e (i := 4) sc__law_due.nd rfl (Or.inr rfl) (pn_F (pf_comp (N' := ["table", "pieces", "good", "fold", "heads", "piece"])  rfl ⟨rfl, rfl, rfl, rfl, rfl⟩ (n := 5) rfl (pi_seqD (pd_v 1 (pv 1))) (fun _ _ _ _ _ => pg_name (i := 5) nd13 rfl (Or.inl rfl)) (fun _ _ _ _ _ => pifs_nilD) (fun _ _ _ _ _ => (pd_ix (pd_v 5 (pv 5)) pd_int))))))
   (ss_one (s_retN (pn_list (pan_cons (pn_F (pf_list pad_nil)) (pan_cons (pn_comp (N' := ["table", "pieces", "good", "fold", "heads", "one"])  rfl ⟨rfl, rfl, rfl, rfl, rfl⟩ (n := 5) rfl (pi_seqD (pd_v 4 (pv 4))) (fun _ _ _ _ _ => pg_name (i := 5) nd11 rfl (Or.inr rfl)) (fun _ _ _ _ _ => pifs_nilD) (fun _ _ _ _ _ => (pn_F (pf_comp (N' := ["table", "pieces", "good", "fold", "heads", "one", "other"])  rfl ⟨rfl, rfl, rfl, rfl, rfl⟩ (n := 6) rfl (pi_seqD (pd_v 4 (pv 4))) (fun _ _ _ _ _ => pg_name (i := 6) nd12 rfl (Or.inl rfl)) (fun _ _ _ _ _ => pifs_nilD) (fun _ _ _ _ _ => (pd_ix (pd_ix (pd_v 0 (pv 0)) (pd_v 5 (pv 5))) (pd_v 6 (pv 6)))))))) pan_nil))))))))
theorem sc__law_good : FnScope N__law_good P__law_good (defScope s__law_good) := ⟨rfl, rfl, rfl, by decide +kernel, rfl, by decide +kernel, by decide +kernel⟩
theorem ok__law_good {f : Addr} {fd : FuncData} (F : Fun K "_law_good" "_law_good" s__law_good f fd) (hm : mg "_law_good" = some (.ref f)) (hb : Binds K fd P__law_good []) (T : Txt mg) : DefOk P w K mg base 1 "_law_good" (spN K m__law_good) :=
 defN (k := 0) (g := g__law_good) F hm hb sc__law_good rfl rfl fun cdv A outer s H E hr =>
  (ss_cons (s_asgN (pas_e (i := 2) sc__law_good.nd rfl (Or.inl rfl) (pn_F (pf_list pad_nil))))
   (ss_cons (s_for PassesOwn.never rfl (pi_seqD (pd_v 0 (pv 0))) (pg_name (i := 3) sc__law_good.nd rfl (Or.inl rfl)) (ss_cons (s_if (pt_eq hr.units (pd_v 3 (pv 3)) (pd_F (pf_list pad_nil))) (ss_one (s_retI pd_bl)) ss_nil)
   (ss_one (s_asgN (pas_e (i := 2) sc__law_good.nd rfl (Or.inl rfl) (pn_F (pf_catS (pd_v 2 (pv 2)) (pd_v 3 (pv 3)))))))))
   (ss_one (s_retI (pd_eq hr.units (pd_F (pf_sorted rfl T.b_sorted (pd_v 2 (pv 2)))) (pd_F (pf_listR1 rfl rfl T.b_list rfl T.b_range (pd_v 1 (pv 1)))))))))
theorem sc__law_all_together : FnScope N__law_all_together P__law_all_together (defScope s__law_all_together) := ⟨rfl, rfl, rfl, by decide +kernel, rfl, by decide +kernel, by decide +kernel⟩
theorem ok__law_all_together {f : Addr} {fd : FuncData} (F : Fun K "_law_all_together" "_law_all_together" s__law_all_together f fd) (hm : mg "_law_all_together" = some (.ref f)) (hb : Binds K fd P__law_all_together []) (T : Txt mg) (G__law_together : DefOk P w K mg base 2 "_law_together" (spN K m__law_together)) : DefOk P w K mg base 3 "_law_all_together" (spN K m__law_all_together) :=
 defN (k := 2) (g := g__law_all_together) F hm hb sc__law_all_together rfl rfl fun cdv A outer s H E hr =>
  (ss_cons (s_for PassesOwn.never rfl (pi_seqD (pd_v 1 (pv 1))) (pg_name (i := 2) sc__law_all_together.nd rfl (Or.inl rfl)) (ss_one (s_if (pt_notD (pt_truthD (pd_N (pn_callN G__law_together (hr.mono (by decide)) rfl (pad_cons (pd_v 0 (pv 0)) (pad_cons (pd_v 2 (pv 2)) pad_nil)))))) (ss_one (s_retI pd_bl)) ss_nil)))
   (ss_one (s_retI pd_bl)))
theorem sc_law : FnScope N_law P_law (defScope s_law) := ⟨rfl, rfl, rfl, by decide +kernel, rfl, by decide +kernel, by decide +kernel⟩
theorem ok_law {f : Addr} {fd : FuncData} (F : Fun K "law" "law" s_law f fd) (T : Txt mg) (Z : Cls K mg base cl) (G__law_mixed : DefOk P w K mg base 2 "_law_mixed" (spN K m__law_mixed)) (G__law_table : DefOk P w K mg base 2 "_law_table" (spN K m__law_table)) (G__law_pieces : DefOk P w K mg base 1 "_law_pieces" (spN K m__law_pieces)) (G__law_spoiled : DefOk P w K mg base 2 "_law_spoiled" (spN K m__law_spoiled)) (G__law_refused : DefOk P w K mg base 5 "_law_refused" (spR K m__law_refused)) (G__law_due : DefOk P w K mg base 1 "_law_due" (spN K m__law_due)) (G__law_good : DefOk P w K mg base 1 "_law_good" (spN K m__law_good)) (G__law_all_together : DefOk P w K mg base 3 "_law_all_together" (spN K m__law_all_together)) : FnOk P w K mg base CX0 6 f fd P_law (spN K m_law) :=
 fnN (k := 5) (g := g_law) F sc_law rfl rfl fun cdv A outer s H E hr =>
  (ss_cons (s_asgS (pas_e (i := 1) sc_law.nd rfl (Or.inl rfl) (pd_N (pn_callN G__law_mixed (hr.mono (by decide)) rfl (pad_cons (pd_v 0 (pv 0)) pad_nil)))))
   (ss_cons (s_asgS (pas_e (i := 2) sc_law.nd rfl (Or.inl rfl) (pd_N (pn_callN G__law_table (hr.mono (by decide)) rfl (pad_cons (pd_v 1 (pv 1)) pad_nil)))))
   (ss_cons (s_for PassesOwn.never rfl (pi_seqD (pd_F (pf_cat (pd_F (pf_list (pad_cons pd_int pad_nil))) (pd_F (pf_slice (pd_v 0 (pv 0)) po_noneD (po_someD pd_int)))))) (pg_name (i := 3) sc_law.nd rfl (Or.inl rfl)) (ss_cons (s_asgN (pas_e (i := 4) sc_law.nd rfl (Or.inl rfl) (pn_callN G__law_spoiled (hr.mono (by decide)) rfl (pad_cons (pd_N (pn_callN G__law_pieces (hr.mono (by decide)) rfl (pad_cons (pd_v 1 (pv 1)) pad_nil))) (pad_cons (pd_v 3 (pv 3)) (pad_cons (pd_len rfl T.b_len (pd_v 2 (pv 2))) pad_nil))))))
   (ss_cons (s_asgI (pas_e (i := 5) sc_law.nd rfl (Or.inl rfl) (pd_N (pn_callN G__law_good (hr.mono (by decide)) rfl (pad_cons (pd_v 4 (pv 4)) (pad_cons (pd_len rfl T.b_len (pd_v 2 (pv 2))) pad_nil))))))
   (ss_one (s_for PassesOwn.never rfl (pi_seqD (pd_F (pf_list (pad_cons pd_bl (pad_cons pd_bl pad_nil))))) (pg_name (i := 6) sc_law.nd rfl (Or.inl rfl)) (ss_cons (s_asgN (pas_e (i := 7) sc_law.nd rfl (Or.inl rfl) (pn_list (pan_cons (pn_comp (N' := ["script", "mixed", "table", "cell", "spoiled", "good", "fold", "handed", "row"])  rfl ⟨rfl, rfl, rfl, rfl, rfl⟩ (n := 8) rfl (pi_seqD (pd_v 2 (pv 2))) (fun _ _ _ _ _ => pg_name (i := 8) nd14 rfl (Or.inl rfl)) (fun _ _ _ _ _ => pifs_nilD) (fun _ _ _ _ _ => (pn_F (pf_listOf rfl T.b_list (pd_v 8 (pv 8)))))) (pan_cons (pn_comp (N' := ["script", "mixed", "table", "cell", "spoiled", "good", "fold", "handed", "piece"])  rfl ⟨rfl, rfl, rfl, rfl, rfl⟩ (n := 8) rfl (pi_seqD (pd_v 4 (pv 4))) (fun _ _ _ _ _ => pg_name (i := 8) nd15 rfl (Or.inl rfl)) (fun _ _ _ _ _ => pifs_nilD) (fun _ _ _ _ _ => (pn_F (pf_listOf rfl T.b_list (pd_v 8 (pv 8)))))) pan_nil)))))
   (ss_cons (s_asgI (pas_e (i := 5) sc_law.nd rfl (Or.inl rfl) (pd_and (pd_v 5 (pv 5)) (pd_one (pd_or (pd_not (pd_v 6 (pv 6))) (pd_one (pd_N (pn_callN G__law_all_together (hr.mono (by decide)) rfl (pad_cons (pd_v 2 (pv 2)) (pad_cons (pd_v 4 (pv 4)) pad_nil))))))))))
   (ss_cons (s_if (pt_ne hr.units (pd_callR G__law_refused (hr.mono (by decide)) rfl (pad_cons (pd_ix (pd_v 7 (pv 7)) pd_int) (pad_cons (pd_ix (pd_v 7 (pv 7)) pd_int) (pad_cons (pd_v 6 (pv 6)) pad_nil)))) (pd_N (pn_callN G__law_due (hr.mono (by decide)) rfl (pad_cons (pd_v 2 (pv 2)) (pad_cons (pd_v 4 (pv 4)) (pad_cons (pd_v 5 (pv 5)) (pad_cons (pd_v 6 (pv 6)) pad_nil))))))) (ss_one (s_retI pd_bl)) ss_nil)
   (ss_one (s_if (pt_ne hr.units (pd_v 7 (pv 7)) (pd_F (pf_list (pad_cons (pd_v 2 (pv 2)) (pad_cons (pd_v 4 (pv 4)) pad_nil))))) (ss_one (s_retI pd_bl)) ss_nil))))))))))
   (ss_one (s_retI pd_bl)))))
end
theorem all_mk {l : PySem.W.OpenLaw} {w : World} {K : PySem.W.Frag} {h : Heap} {mg : Str → Option Value} {fa : Addr} (X : K.In h) (G : h.Ns mainGlobals mg) (hfa : mg "law" = some (.ref fa))
  {f_part f_picked f_stands_together f_parting f_sees_as_one f_is_thing f_tells_each_once f_places_of f_folded f__law_cell_at f__law_table_by f__law_mixed f__law_beats f__law_table f__law_pieces f__law_breaks f__law_together f__law_any f__law_spoiled f__law_refused f__law_due f__law_good f__law_all_together f_law : Addr} {od22 an22 : Option Addr} {sl22 : Array (Option Value)} {oc22 kV22 dc22 pm22 cd22 ct22 : Value} {od21 an21 : Option Addr} {sl21 : Array (Option Value)} {oc21 kV21 dc21 pm21 cd21 ct21 : Value} {od1 an1 : Option Addr} {sl1 : Array (Option Value)} {oc1 kV1 dc1 pm1 cd1 ct1 : Value} {od19 an19 : Option Addr} {sl19 : Array (Option Value)} {oc19 kV19 dc19 pm19 cd19 ct19 : Value} {od10 an10 : Option Addr} {sl10 : Array (Option Value)} {oc10 kV10 dc10 pm10 cd10 ct10 : Value} {od18 an18 : Option Addr} {sl18 : Array (Option Value)} {oc18 kV18 dc18 pm18 cd18 ct18 : Value} {od2 an2 : Option Addr} {sl2 : Array (Option Value)} {oc2 kV2 dc2 pm2 cd2 ct2 : Value} {od15 an15 : Option Addr} {sl15 : Array (Option Value)} {oc15 kV15 dc15 pm15 cd15 ct15 : Value} {od20 an20 : Option Addr} {sl20 : Array (Option Value)} {oc20 kV20 dc20 pm20 cd20 ct20 : Value} {od5 an5 : Option Addr} {sl5 : Array (Option Value)} {oc5 kV5 dc5 pm5 cd5 ct5 : Value} {od3 an3 : Option Addr} {sl3 : Array (Option Value)} {oc3 kV3 dc3 pm3 cd3 ct3 : Value} {od12 an12 : Option Addr} {sl12 : Array (Option Value)} {oc12 kV12 dc12 pm12 cd12 ct12 : Value} {od11 an11 : Option Addr} {sl11 : Array (Option Value)} {oc11 kV11 dc11 pm11 cd11 ct11 : Value} {od13 an13 : Option Addr} {sl13 : Array (Option Value)} {oc13 kV13 dc13 pm13 cd13 ct13 : Value} {od9 an9 : Option Addr} {sl9 : Array (Option Value)} {oc9 kV9 dc9 pm9 cd9 ct9 : Value} {od8 an8 : Option Addr} {sl8 : Array (Option Value)} {oc8 kV8 dc8 pm8 cd8 ct8 : Value} {od4 an4 : Option Addr} {sl4 : Array (Option Value)} {oc4 kV4 dc4 pm4 cd4 ct4 : Value} {od16 an16 : Option Addr} {sl16 : Array (Option Value)} {oc16 kV16 dc16 pm16 cd16 ct16 : Value} {od7 an7 : Option Addr} {sl7 : Array (Option Value)} {oc7 kV7 dc7 pm7 cd7 ct7 : Value} {od6 an6 : Option Addr} {sl6 : Array (Option Value)} {oc6 kV6 dc6 pm6 cd6 ct6 : Value} {od17 an17 : Option Addr} {sl17 : Array (Option Value)} {oc17 kV17 dc17 pm17 cd17 ct17 : Value} {od14 an14 : Option Addr} {sl14 : Array (Option Value)} {oc14 kV14 dc14 pm14 cd14 ct14 : Value} {od0 an0 : Option Addr} {sl0 : Array (Option Value)} {oc0 kV0 dc0 pm0 cd0 ct0 : Value} {od23 an23 : Option Addr} {sl23 : Array (Option Value)} {oc23 kV23 dc23 pm23 cd23 ct23 : Value} {C_AskError C_BadBallot C_BadOrder C_BadParts C_NotAlike : Addr}
  (a_part : PySem.W.nsIn K mainGlobals "part" = some (some (.ref f_part))) (l_part : K.lookup f_part = some ⟨oc22, od22, .func (PySem.W.fnOf "part" "part" (defArgs s_part) (defBody s_part) (defScope s_part) .none kV22 dc22 pm22 an22 cd22 ct22), sl22⟩) (c_part : PySem.W.codeIn K cd22 "part" = true) (k_part : PySem.W.keepIn K (.ref f_part) = true)
  (a_picked : PySem.W.nsIn K mainGlobals "picked" = some (some (.ref f_picked))) (l_picked : K.lookup f_picked = some ⟨oc21, od21, .func (PySem.W.fnOf "picked" "picked" (defArgs s_picked) (defBody s_picked) (defScope s_picked) .none kV21 dc21 pm21 an21 cd21 ct21), sl21⟩) (c_picked : PySem.W.codeIn K cd21 "picked" = true) (k_picked : PySem.W.keepIn K (.ref f_picked) = true)
  (a_stands_together : PySem.W.nsIn K mainGlobals "stands_together" = some (some (.ref f_stands_together))) (l_stands_together : K.lookup f_stands_together = some ⟨oc1, od1, .func (PySem.W.fnOf "stands_together" "stands_together" (defArgs s_stands_together) (defBody s_stands_together) (defScope s_stands_together) .none kV1 dc1 pm1 an1 cd1 ct1), sl1⟩) (c_stands_together : PySem.W.codeIn K cd1 "stands_together" = true) (k_stands_together : PySem.W.keepIn K (.ref f_stands_together) = true)
  (a_parting : PySem.W.nsIn K mainGlobals "parting" = some (some (.ref f_parting))) (l_parting : K.lookup f_parting = some ⟨oc19, od19, .func (PySem.W.fnOf "parting" "parting" (defArgs s_parting) (defBody s_parting) (defScope s_parting) .none kV19 dc19 pm19 an19 cd19 ct19), sl19⟩) (c_parting : PySem.W.codeIn K cd19 "parting" = true) (k_parting : PySem.W.keepIn K (.ref f_parting) = true)
  (a_sees_as_one : PySem.W.nsIn K mainGlobals "sees_as_one" = some (some (.ref f_sees_as_one))) (l_sees_as_one : K.lookup f_sees_as_one = some ⟨oc10, od10, .func (PySem.W.fnOf "sees_as_one" "sees_as_one" (defArgs s_sees_as_one) (defBody s_sees_as_one) (defScope s_sees_as_one) .none kV10 dc10 pm10 an10 cd10 ct10), sl10⟩) (c_sees_as_one : PySem.W.codeIn K cd10 "sees_as_one" = true) (k_sees_as_one : PySem.W.keepIn K (.ref f_sees_as_one) = true)
  (a_is_thing : PySem.W.nsIn K mainGlobals "is_thing" = some (some (.ref f_is_thing))) (l_is_thing : K.lookup f_is_thing = some ⟨oc18, od18, .func (PySem.W.fnOf "is_thing" "is_thing" (defArgs s_is_thing) (defBody s_is_thing) (defScope s_is_thing) .none kV18 dc18 pm18 an18 cd18 ct18), sl18⟩) (c_is_thing : PySem.W.codeIn K cd18 "is_thing" = true) (k_is_thing : PySem.W.keepIn K (.ref f_is_thing) = true)
  (a_tells_each_once : PySem.W.nsIn K mainGlobals "tells_each_once" = some (some (.ref f_tells_each_once))) (l_tells_each_once : K.lookup f_tells_each_once = some ⟨oc2, od2, .func (PySem.W.fnOf "tells_each_once" "tells_each_once" (defArgs s_tells_each_once) (defBody s_tells_each_once) (defScope s_tells_each_once) .none kV2 dc2 pm2 an2 cd2 ct2), sl2⟩) (c_tells_each_once : PySem.W.codeIn K cd2 "tells_each_once" = true) (k_tells_each_once : PySem.W.keepIn K (.ref f_tells_each_once) = true)
  (a_places_of : PySem.W.nsIn K mainGlobals "places_of" = some (some (.ref f_places_of))) (l_places_of : K.lookup f_places_of = some ⟨oc15, od15, .func (PySem.W.fnOf "places_of" "places_of" (defArgs s_places_of) (defBody s_places_of) (defScope s_places_of) .none kV15 dc15 pm15 an15 cd15 ct15), sl15⟩) (c_places_of : PySem.W.codeIn K cd15 "places_of" = true) (k_places_of : PySem.W.keepIn K (.ref f_places_of) = true)
  (a_folded : PySem.W.nsIn K mainGlobals "folded" = some (some (.ref f_folded))) (l_folded : K.lookup f_folded = some ⟨oc20, od20, .func (PySem.W.fnOf "folded" "folded" (defArgs s_folded) (defBody s_folded) (defScope s_folded) .none kV20 dc20 pm20 an20 cd20 ct20), sl20⟩) (c_folded : PySem.W.codeIn K cd20 "folded" = true) (k_folded : PySem.W.keepIn K (.ref f_folded) = true)
  (a__law_cell_at : PySem.W.nsIn K mainGlobals "_law_cell_at" = some (some (.ref f__law_cell_at))) (l__law_cell_at : K.lookup f__law_cell_at = some ⟨oc5, od5, .func (PySem.W.fnOf "_law_cell_at" "_law_cell_at" (defArgs s__law_cell_at) (defBody s__law_cell_at) (defScope s__law_cell_at) .none kV5 dc5 pm5 an5 cd5 ct5), sl5⟩) (c__law_cell_at : PySem.W.codeIn K cd5 "_law_cell_at" = true) (k__law_cell_at : PySem.W.keepIn K (.ref f__law_cell_at) = true)
  (a__law_table_by : PySem.W.nsIn K mainGlobals "_law_table_by" = some (some (.ref f__law_table_by))) (l__law_table_by : K.lookup f__law_table_by = some ⟨oc3, od3, .func (PySem.W.fnOf "_law_table_by" "_law_table_by" (defArgs s__law_table_by) (defBody s__law_table_by) (defScope s__law_table_by) .none kV3 dc3 pm3 an3 cd3 ct3), sl3⟩) (c__law_table_by : PySem.W.codeIn K cd3 "_law_table_by" = true) (k__law_table_by : PySem.W.keepIn K (.ref f__law_table_by) = true)
  (a__law_mixed : PySem.W.nsIn K mainGlobals "_law_mixed" = some (some (.ref f__law_mixed))) (l__law_mixed : K.lookup f__law_mixed = some ⟨oc12, od12, .func (PySem.W.fnOf "_law_mixed" "_law_mixed" (defArgs s__law_mixed) (defBody s__law_mixed) (defScope s__law_mixed) .none kV12 dc12 pm12 an12 cd12 ct12), sl12⟩) (c__law_mixed : PySem.W.codeIn K cd12 "_law_mixed" = true) (k__law_mixed : PySem.W.keepIn K (.ref f__law_mixed) = true)
  (a__law_beats : PySem.W.nsIn K mainGlobals "_law_beats" = some (some (.ref f__law_beats))) (l__law_beats : K.lookup f__law_beats = some ⟨oc11, od11, .func (PySem.W.fnOf "_law_beats" "_law_beats" (defArgs s__law_beats) (defBody s__law_beats) (defScope s__law_beats) .none kV11 dc11 pm11 an11 cd11 ct11), sl11⟩) (c__law_beats : PySem.W.codeIn K cd11 "_law_beats" = true) (k__law_beats : PySem.W.keepIn K (.ref f__law_beats) = true)
  (a__law_table : PySem.W.nsIn K mainGlobals "_law_table" = some (some (.ref f__law_table))) (l__law_table : K.lookup f__law_table = some ⟨oc13, od13, .func (PySem.W.fnOf "_law_table" "_law_table" (defArgs s__law_table) (defBody s__law_table) (defScope s__law_table) .none kV13 dc13 pm13 an13 cd13 ct13), sl13⟩) (c__law_table : PySem.W.codeIn K cd13 "_law_table" = true) (k__law_table : PySem.W.keepIn K (.ref f__law_table) = true)
  (a__law_pieces : PySem.W.nsIn K mainGlobals "_law_pieces" = some (some (.ref f__law_pieces))) (l__law_pieces : K.lookup f__law_pieces = some ⟨oc9, od9, .func (PySem.W.fnOf "_law_pieces" "_law_pieces" (defArgs s__law_pieces) (defBody s__law_pieces) (defScope s__law_pieces) .none kV9 dc9 pm9 an9 cd9 ct9), sl9⟩) (c__law_pieces : PySem.W.codeIn K cd9 "_law_pieces" = true) (k__law_pieces : PySem.W.keepIn K (.ref f__law_pieces) = true)
  (a__law_breaks : PySem.W.nsIn K mainGlobals "_law_breaks" = some (some (.ref f__law_breaks))) (l__law_breaks : K.lookup f__law_breaks = some ⟨oc8, od8, .func (PySem.W.fnOf "_law_breaks" "_law_breaks" (defArgs s__law_breaks) (defBody s__law_breaks) (defScope s__law_breaks) .none kV8 dc8 pm8 an8 cd8 ct8), sl8⟩) (c__law_breaks : PySem.W.codeIn K cd8 "_law_breaks" = true) (k__law_breaks : PySem.W.keepIn K (.ref f__law_breaks) = true)
  (a__law_together : PySem.W.nsIn K mainGlobals "_law_together" = some (some (.ref f__law_together))) (l__law_together : K.lookup f__law_together = some ⟨oc4, od4, .func (PySem.W.fnOf "_law_together" "_law_together" (defArgs s__law_together) (defBody s__law_together) (defScope s__law_together) .none kV4 dc4 pm4 an4 cd4 ct4), sl4⟩) (c__law_together : PySem.W.codeIn K cd4 "_law_together" = true) (k__law_together : PySem.W.keepIn K (.ref f__law_together) = true)
  (a__law_any : PySem.W.nsIn K mainGlobals "_law_any" = some (some (.ref f__law_any))) (l__law_any : K.lookup f__law_any = some ⟨oc16, od16, .func (PySem.W.fnOf "_law_any" "_law_any" (defArgs s__law_any) (defBody s__law_any) (defScope s__law_any) .none kV16 dc16 pm16 an16 cd16 ct16), sl16⟩) (c__law_any : PySem.W.codeIn K cd16 "_law_any" = true) (k__law_any : PySem.W.keepIn K (.ref f__law_any) = true)
  (a__law_spoiled : PySem.W.nsIn K mainGlobals "_law_spoiled" = some (some (.ref f__law_spoiled))) (l__law_spoiled : K.lookup f__law_spoiled = some ⟨oc7, od7, .func (PySem.W.fnOf "_law_spoiled" "_law_spoiled" (defArgs s__law_spoiled) (defBody s__law_spoiled) (defScope s__law_spoiled) .none kV7 dc7 pm7 an7 cd7 ct7), sl7⟩) (c__law_spoiled : PySem.W.codeIn K cd7 "_law_spoiled" = true) (k__law_spoiled : PySem.W.keepIn K (.ref f__law_spoiled) = true)
  (a__law_refused : PySem.W.nsIn K mainGlobals "_law_refused" = some (some (.ref f__law_refused))) (l__law_refused : K.lookup f__law_refused = some ⟨oc6, od6, .func (PySem.W.fnOf "_law_refused" "_law_refused" (defArgs s__law_refused) (defBody s__law_refused) (defScope s__law_refused) .none kV6 dc6 pm6 an6 cd6 ct6), sl6⟩) (c__law_refused : PySem.W.codeIn K cd6 "_law_refused" = true) (k__law_refused : PySem.W.keepIn K (.ref f__law_refused) = true)
  (a__law_due : PySem.W.nsIn K mainGlobals "_law_due" = some (some (.ref f__law_due))) (l__law_due : K.lookup f__law_due = some ⟨oc17, od17, .func (PySem.W.fnOf "_law_due" "_law_due" (defArgs s__law_due) (defBody s__law_due) (defScope s__law_due) .none kV17 dc17 pm17 an17 cd17 ct17), sl17⟩) (c__law_due : PySem.W.codeIn K cd17 "_law_due" = true) (k__law_due : PySem.W.keepIn K (.ref f__law_due) = true)
  (a__law_good : PySem.W.nsIn K mainGlobals "_law_good" = some (some (.ref f__law_good))) (l__law_good : K.lookup f__law_good = some ⟨oc14, od14, .func (PySem.W.fnOf "_law_good" "_law_good" (defArgs s__law_good) (defBody s__law_good) (defScope s__law_good) .none kV14 dc14 pm14 an14 cd14 ct14), sl14⟩) (c__law_good : PySem.W.codeIn K cd14 "_law_good" = true) (k__law_good : PySem.W.keepIn K (.ref f__law_good) = true)
  (a__law_all_together : PySem.W.nsIn K mainGlobals "_law_all_together" = some (some (.ref f__law_all_together))) (l__law_all_together : K.lookup f__law_all_together = some ⟨oc0, od0, .func (PySem.W.fnOf "_law_all_together" "_law_all_together" (defArgs s__law_all_together) (defBody s__law_all_together) (defScope s__law_all_together) .none kV0 dc0 pm0 an0 cd0 ct0), sl0⟩) (c__law_all_together : PySem.W.codeIn K cd0 "_law_all_together" = true) (k__law_all_together : PySem.W.keepIn K (.ref f__law_all_together) = true)
  (a_law : PySem.W.nsIn K mainGlobals "law" = some (some (.ref f_law))) (l_law : K.lookup f_law = some ⟨oc23, od23, .func (PySem.W.fnOf "law" "law" (defArgs s_law) (defBody s_law) (defScope s_law) .none kV23 dc23 pm23 an23 cd23 ct23), sl23⟩) (c_law : PySem.W.codeIn K cd23 "law" = true) (k_law : PySem.W.keepIn K (.ref f_law) = true)
  (x_AskError : PySem.W.nsIn K mainGlobals "AskError" = some (some (.ref C_AskError))) (q_AskError : PySem.W.excIn K C_AskError bmVE "ValueError.__new__" = true)
  (x_BadBallot : PySem.W.nsIn K mainGlobals "BadBallot" = some (some (.ref C_BadBallot))) (q_BadBallot : PySem.W.excIn K C_BadBallot bmVE "ValueError.__new__" = true)
  (x_BadOrder : PySem.W.nsIn K mainGlobals "BadOrder" = some (some (.ref C_BadOrder))) (q_BadOrder : PySem.W.excIn K C_BadOrder bmVE "ValueError.__new__" = true)
  (x_BadParts : PySem.W.nsIn K mainGlobals "BadParts" = some (some (.ref C_BadParts))) (q_BadParts : PySem.W.excIn K C_BadParts bmVE "ValueError.__new__" = true)
  (x_NotAlike : PySem.W.nsIn K mainGlobals "NotAlike" = some (some (.ref C_NotAlike))) (q_NotAlike : PySem.W.excIn K C_NotAlike bmVE "ValueError.__new__" = true)
  (e_BadParts_AskError : PySem.W.exmOne K (.ref C_BadParts) (.ref C_AskError) = some true)
  (xb_AskError : xclsB K C_AskError = true) (xb_BadBallot : xclsB K C_BadBallot = true) (xb_BadOrder : xclsB K C_BadOrder = true) (xb_BadParts : xclsB K C_BadParts = true) (xb_NotAlike : xclsB K C_NotAlike = true)
  (t_BadParts_BadBallot : PySem.W.kitOne K (.ref C_BadParts) (.ref C_BadBallot) = some false) (t_BadParts_NotAlike : PySem.W.kitOne K (.ref C_BadParts) (.ref C_NotAlike) = some false) (t_BadParts_BadParts : PySem.W.kitOne K (.ref C_BadParts) (.ref C_BadParts) = some true) (t_BadParts_ValueError : PySem.W.kitOne K (.ref C_BadParts) (.type "ValueError") = some true) (t_BadParts_BadOrder : PySem.W.kitOne K (.ref C_BadParts) (.ref C_BadOrder) = some false)
  (z_all : PySem.W.nsIn K mainGlobals "all" = some none) (z_any : PySem.W.nsIn K mainGlobals "any" = some none) (z_range : PySem.W.nsIn K mainGlobals "range" = some none) (z_len : PySem.W.nsIn K mainGlobals "len" = some none) (z_int : PySem.W.nsIn K mainGlobals "int" = some none) (z_isinstance : PySem.W.nsIn K mainGlobals "isinstance" = some none) (z_bool : PySem.W.nsIn K mainGlobals "bool" = some none) (z_enumerate : PySem.W.nsIn K mainGlobals "enumerate" = some none) (z_min : PySem.W.nsIn K mainGlobals "min" = some none) (z_list : PySem.W.nsIn K mainGlobals "list" = some none) (z_ValueError : PySem.W.nsIn K mainGlobals "ValueError" = some none) (z_sorted : PySem.W.nsIn K mainGlobals "sorted" = some none) :
  ∃ fd : FuncData, (∀ (s : Shared) (v : Value), BindsTo s fd ⟨[v], []⟩ [("script", v)]) ∧ ∀ base : Heap, K.In base → base.Ns mainGlobals mg → FnOk l.prog w K mg base CX0 6 fa fd ["script"] (spLaw K m_law) := by
 have e := hfa.symm.trans (PySem.W.mg_of X G a_law)
 cases e
 have T : Txt mg := ⟨PySem.W.mg_none_of X G z_all, PySem.W.mg_none_of X G z_any, PySem.W.mg_none_of X G z_range, PySem.W.mg_none_of X G z_len, PySem.W.mg_none_of X G z_int, PySem.W.mg_none_of X G z_isinstance, PySem.W.mg_none_of X G z_bool, PySem.W.mg_none_of X G z_enumerate, PySem.W.mg_none_of X G z_min, PySem.W.mg_none_of X G z_list, PySem.W.mg_none_of X G z_ValueError, PySem.W.mg_none_of X G z_sorted⟩
 have F_part := fun_mk (st := s_part) l_part c_part k_part
 have b_part := F_part.binds (ps := P_part) fun _ _ _ _ _ _ us hl => match us, hl with | [_, _], _ => rfl
 have F_picked := fun_mk (st := s_picked) l_picked c_picked k_picked
 have b_picked := F_picked.binds (ps := P_picked) fun _ _ _ _ _ _ us hl => match us, hl with | [_, _], _ => rfl
 have F_stands_together := fun_mk (st := s_stands_together) l_stands_together c_stands_together k_stands_together
 have b_stands_together := F_stands_together.binds (ps := P_stands_together) fun _ _ _ _ _ _ us hl => match us, hl with | [_, _], _ => rfl
 have F_parting := fun_mk (st := s_parting) l_parting c_parting k_parting
 have b_parting := F_parting.binds (ps := P_parting) fun _ _ _ _ _ _ us hl => match us, hl with | [_, _], _ => rfl
 have F_sees_as_one := fun_mk (st := s_sees_as_one) l_sees_as_one c_sees_as_one k_sees_as_one
 have b_sees_as_one := F_sees_as_one.binds (ps := P_sees_as_one) fun _ _ _ _ _ _ us hl => match us, hl with | [_, _, _], _ => rfl
 have F_is_thing := fun_mk (st := s_is_thing) l_is_thing c_is_thing k_is_thing
 have b_is_thing := F_is_thing.binds (ps := P_is_thing) fun _ _ _ _ _ _ us hl => match us, hl with | [_, _], _ => rfl
 have F_tells_each_once := fun_mk (st := s_tells_each_once) l_tells_each_once c_tells_each_once k_tells_each_once
 have b_tells_each_once := F_tells_each_once.binds (ps := P_tells_each_once) fun _ _ _ _ _ _ us hl => match us, hl with | [_, _], _ => rfl
 have F_places_of := fun_mk (st := s_places_of) l_places_of c_places_of k_places_of
 have b_places_of := F_places_of.binds (ps := P_places_of) fun _ _ _ _ _ _ us hl => match us, hl with | [_, _], _ => rfl
 have F_folded := fun_mk (st := s_folded) l_folded c_folded k_folded
 have b_folded := F_folded.binds (ps := P_folded) fun _ _ _ _ _ _ us hl => match us, hl with | [_, _], _ => rfl
 have F__law_cell_at := fun_mk (st := s__law_cell_at) l__law_cell_at c__law_cell_at k__law_cell_at
 have b__law_cell_at := F__law_cell_at.binds (ps := P__law_cell_at) fun _ _ _ _ _ _ us hl => match us, hl with | [_, _], _ => rfl
 have F__law_table_by := fun_mk (st := s__law_table_by) l__law_table_by c__law_table_by k__law_table_by
 have b__law_table_by := F__law_table_by.binds (ps := P__law_table_by) fun _ _ _ _ _ _ us hl => match us, hl with | [_, _], _ => rfl
 have F__law_mixed := fun_mk (st := s__law_mixed) l__law_mixed c__law_mixed k__law_mixed
 have b__law_mixed := F__law_mixed.binds (ps := P__law_mixed) fun _ _ _ _ _ _ us hl => match us, hl with | [_], _ => rfl
 have F__law_beats := fun_mk (st := s__law_beats) l__law_beats c__law_beats k__law_beats
 have b__law_beats := F__law_beats.binds (ps := P__law_beats) fun _ _ _ _ _ _ us hl => match us, hl with | [_, _, _], _ => rfl
 have F__law_table := fun_mk (st := s__law_table) l__law_table c__law_table k__law_table
 have b__law_table := F__law_table.binds (ps := P__law_table) fun _ _ _ _ _ _ us hl => match us, hl with | [_], _ => rfl
 have F__law_pieces := fun_mk (st := s__law_pieces) l__law_pieces c__law_pieces k__law_pieces
 have b__law_pieces := F__law_pieces.binds (ps := P__law_pieces) fun _ _ _ _ _ _ us hl => match us, hl with | [_], _ => rfl
 have F__law_breaks := fun_mk (st := s__law_breaks) l__law_breaks c__law_breaks k__law_breaks
 have b__law_breaks := F__law_breaks.binds (ps := P__law_breaks) fun _ _ _ _ _ _ us hl => match us, hl with | [_, _, _], _ => rfl
 have F__law_together := fun_mk (st := s__law_together) l__law_together c__law_together k__law_together
 have b__law_together := F__law_together.binds (ps := P__law_together) fun _ _ _ _ _ _ us hl => match us, hl with | [_, _], _ => rfl
 have F__law_any := fun_mk (st := s__law_any) l__law_any c__law_any k__law_any
 have b__law_any := F__law_any.binds (ps := P__law_any) fun _ _ _ _ _ _ us hl => match us, hl with | [_, _], _ => rfl
 have F__law_spoiled := fun_mk (st := s__law_spoiled) l__law_spoiled c__law_spoiled k__law_spoiled
 have b__law_spoiled := F__law_spoiled.binds (ps := P__law_spoiled) fun _ _ _ _ _ _ us hl => match us, hl with | [_, _, _], _ => rfl
 have F__law_refused := fun_mk (st := s__law_refused) l__law_refused c__law_refused k__law_refused
 have b__law_refused := F__law_refused.binds (ps := P__law_refused) fun _ _ _ _ _ _ us hl => match us, hl with | [_, _, _], _ => rfl
 have F__law_due := fun_mk (st := s__law_due) l__law_due c__law_due k__law_due
 have b__law_due := F__law_due.binds (ps := P__law_due) fun _ _ _ _ _ _ us hl => match us, hl with | [_, _, _, _], _ => rfl
 have F__law_good := fun_mk (st := s__law_good) l__law_good c__law_good k__law_good
 have b__law_good := F__law_good.binds (ps := P__law_good) fun _ _ _ _ _ _ us hl => match us, hl with | [_, _], _ => rfl
 have F__law_all_together := fun_mk (st := s__law_all_together) l__law_all_together c__law_all_together k__law_all_together
 have b__law_all_together := F__law_all_together.binds (ps := P__law_all_together) fun _ _ _ _ _ _ us hl => match us, hl with | [_, _], _ => rfl
 have F_law := fun_mk (st := s_law) l_law c_law k_law
 have b_law := F_law.binds (ps := P_law) fun _ _ _ _ _ _ us hl => match us, hl with | [_], _ => rfl
 refine ⟨PySem.W.fnOf "law" "law" (defArgs s_law) (defBody s_law) (defScope s_law) .none kV23 dc23 pm23 an23 cd23 ct23, fun s v => .of_eq rfl, fun base KB GB => ?_⟩
 let cl : Nat → Value := fun n => match n with | 0 => .ref C_AskError | 1 => .ref C_BadBallot | 2 => .ref C_BadOrder | 3 => .ref C_BadParts | 4 => .ref C_NotAlike | _ => .none
 have Z : Cls K mg base cl := ⟨⟨C_AskError, rfl, own_mk KB GB x_AskError q_AskError, x_AskError, xb_AskError⟩, ⟨C_BadBallot, rfl, own_mk KB GB x_BadBallot q_BadBallot, x_BadBallot, xb_BadBallot⟩, ⟨C_BadOrder, rfl, own_mk KB GB x_BadOrder q_BadOrder, x_BadOrder, xb_BadOrder⟩, ⟨C_BadParts, rfl, own_mk KB GB x_BadParts q_BadParts, x_BadParts, xb_BadParts⟩, ⟨C_NotAlike, rfl, own_mk KB GB x_NotAlike q_NotAlike, x_NotAlike, xb_NotAlike⟩, fun C h => by cases h; exact e_BadParts_AskError, fun D hD => by cases hD; exact k_one (fun C hn => by cases hn.symm.trans x_BadParts; exact t_BadParts_BadBallot) (k_nil), fun D hD => by cases hD; exact k_one (fun C hn => by cases hn.symm.trans x_BadParts; exact t_BadParts_NotAlike) (k_nil), fun D hD => by cases hD; exact k_one (fun C hn => by cases hn.symm.trans x_BadParts; exact t_BadParts_BadParts) (k_nil), k_one (fun C hn => by cases hn.symm.trans x_BadParts; exact t_BadParts_ValueError) (k_nil), fun D hD => by cases hD; exact k_one (fun C hn => by cases hn.symm.trans x_BadParts; exact t_BadParts_BadOrder) (k_nil)⟩
 have G_picked : DefOk l.prog w K mg base 1 "picked" (spN K m_picked) := ok_picked F_picked (PySem.W.mg_of X G a_picked) b_picked T
 have G_part : DefOk l.prog w K mg base 2 "part" (spN K m_part) := ok_part F_part (PySem.W.mg_of X G a_part) b_part T G_picked
 have G_sees_as_one : DefOk l.prog w K mg base 1 "sees_as_one" (spN K m_sees_as_one) := ok_sees_as_one F_sees_as_one (PySem.W.mg_of X G a_sees_as_one) b_sees_as_one T
 have G_parting : DefOk l.prog w K mg base 2 "parting" (spN K m_parting) := ok_parting F_parting (PySem.W.mg_of X G a_parting) b_parting T G_sees_as_one
 have G_stands_together : DefOk l.prog w K mg base 3 "stands_together" (spN K m_stands_together) := ok_stands_together F_stands_together (PySem.W.mg_of X G a_stands_together) b_stands_together T G_parting
 have G_is_thing : DefOk l.prog w K mg base 1 "is_thing" (spN K m_is_thing) := ok_is_thing F_is_thing (PySem.W.mg_of X G a_is_thing) b_is_thing T
 have G_tells_each_once : DefOk l.prog w K mg base 2 "tells_each_once" (spN K m_tells_each_once) := ok_tells_each_once F_tells_each_once (PySem.W.mg_of X G a_tells_each_once) b_tells_each_once T G_is_thing
 have G_places_of : DefX l.prog w K mg base 3 "places_of" (spX K cl m_places_of) := ok_places_of F_places_of (PySem.W.mg_of X G a_places_of) b_places_of T Z G_tells_each_once
 have G_folded : DefX l.prog w K mg base 4 "folded" (spX K cl m_folded) := ok_folded F_folded (PySem.W.mg_of X G a_folded) b_folded T Z G_part G_stands_together G_places_of
 have G__law_cell_at : DefOk l.prog w K mg base 1 "_law_cell_at" (spN K m__law_cell_at) := ok__law_cell_at F__law_cell_at (PySem.W.mg_of X G a__law_cell_at) b__law_cell_at T
 have G__law_table_by : DefOk l.prog w K mg base 1 "_law_table_by" (spN K m__law_table_by) := ok__law_table_by F__law_table_by (PySem.W.mg_of X G a__law_table_by) b__law_table_by T
 have G__law_mixed : DefOk l.prog w K mg base 2 "_law_mixed" (spN K m__law_mixed) := ok__law_mixed F__law_mixed (PySem.W.mg_of X G a__law_mixed) b__law_mixed T G__law_cell_at G__law_table_by
 have G__law_beats : DefOk l.prog w K mg base 1 "_law_beats" (spN K m__law_beats) := ok__law_beats F__law_beats (PySem.W.mg_of X G a__law_beats) b__law_beats T
 have G__law_table : DefOk l.prog w K mg base 2 "_law_table" (spN K m__law_table) := ok__law_table F__law_table (PySem.W.mg_of X G a__law_table) b__law_table T G__law_beats
 have G__law_pieces : DefOk l.prog w K mg base 1 "_law_pieces" (spN K m__law_pieces) := ok__law_pieces F__law_pieces (PySem.W.mg_of X G a__law_pieces) b__law_pieces T
 have G__law_breaks : DefOk l.prog w K mg base 1 "_law_breaks" (spN K m__law_breaks) := ok__law_breaks F__law_breaks (PySem.W.mg_of X G a__law_breaks) b__law_breaks T
 have G__law_together : DefOk l.prog w K mg base 2 "_law_together" (spN K m__law_together) := ok__law_together F__law_together (PySem.W.mg_of X G a__law_together) b__law_together T G__law_breaks
 have G__law_any : DefOk l.prog w K mg base 1 "_law_any" (spN K m__law_any) := ok__law_any F__law_any (PySem.W.mg_of X G a__law_any) b__law_any T
 have G__law_spoiled : DefOk l.prog w K mg base 2 "_law_spoiled" (spN K m__law_spoiled) := ok__law_spoiled F__law_spoiled (PySem.W.mg_of X G a__law_spoiled) b__law_spoiled T G__law_any
 have G__law_refused : DefOk l.prog w K mg base 5 "_law_refused" (spR K m__law_refused) := ok__law_refused F__law_refused (PySem.W.mg_of X G a__law_refused) b__law_refused T Z G_places_of G_folded
 have G__law_due : DefOk l.prog w K mg base 1 "_law_due" (spN K m__law_due) := ok__law_due F__law_due (PySem.W.mg_of X G a__law_due) b__law_due T
 have G__law_good : DefOk l.prog w K mg base 1 "_law_good" (spN K m__law_good) := ok__law_good F__law_good (PySem.W.mg_of X G a__law_good) b__law_good T
 have G__law_all_together : DefOk l.prog w K mg base 3 "_law_all_together" (spN K m__law_all_together) := ok__law_all_together F__law_all_together (PySem.W.mg_of X G a__law_all_together) b__law_all_together T G__law_together
 exact law_of (ok_law F_law T Z G__law_mixed G__law_table G__law_pieces G__law_spoiled G__law_refused G__law_due G__law_good G__law_all_together)
theorem walk {l : PySem.W.OpenLaw} {q : Program} {loose : List Str} {XP : (Str → Option Value) → Heap → Prop} {YP : World → Heap → Prop} {d : DefRec} {K : Params → PySem.W.Frag} (hn : l.most = some 63) (hdf : d.params.defaults = [])
  (hlaw : ∀ ns : List Int, ns.length ≤ 63 → m_law [.scr ns] = some (.bl true)) (hY : ∀ (w : World) (h : Heap), YP w h → (K w.params).In h)
  (F : ∀ (w : World) (mg : Str → Option Value) (fa : Addr) (h : Heap), (K w.params).In h → h.Ns mainGlobals mg → mg d.name = some (.ref fa) →
   ∃ fd : FuncData, (∀ (s : Shared) (u : Value), BindsTo s fd ⟨[u], []⟩ [("script", u)]) ∧ ∀ base : Heap, (K w.params).In base → base.Ns mainGlobals mg → FnOk l.prog w (K w.params) mg base CX0 6 fa fd ["script"] (spLaw (K w.params) m_law)) :
  PySem.W.WalkO q loose XP YP l.row.toRowW d [] (fun f vs => PySem.call f vs) :=
 L2.walk_of (n := 63) (k := 6) (x := "script") (CX := fun _ => CX0) (sp := fun w => spLaw (K w.params) m_law) hn (by decide) hdf ⟨rfl, by decide, by decide⟩ hY F (fun _ _ a ns hl hO hS => ⟨a, ns, rfl, only_sqF hO hS, hlaw ns hl, fun _ => rfl⟩) fun _ _ _ _ _ z => z
end Prg
namespace Prg
open PySem L2
local macro_rules | `(tactic| simp! only [$xs,*] $[$loc]?) => `(tactic| simp only [ev_var0, ev_varS, ev_C, ev_d2, ev_d1, ev_test, ev_truth, ev_andT, ev_orT, ev_notT, ev_and, ev_or, ev_args0, ev_argsS, ev_call, ev_callL, ev_mkL, ev_mkT, ev_mkFlat, ev_mkImm, ev_is, ev_seq, ev_rng1, ev_rng2, ev_comp, ev_part, ev_nopart, ev_cut, ev_seqO, ev_skip, ev_asgS, ev_asgI, ev_asgN, ev_retI, ev_retN, ev_retS, ev_retO, ev_ifO, ev_forO, ev_frz, ev_st0, ev_st1, ev_m0, ev_m1, ev_app0N, ev_ins0N, ev_small, ev_enum, ev_chain, ev_din', ev_dput, ev_cat, ev_raise, ev_callX, ev_forO2, ev_rep, ev_exprX, ev_asgX, ev_try, ev_asX, ev_ret3, ev_forI, ev_catS, ev_iv1, ev_ext0D, ev_st0N, eo_2, eo_and, eo_andf, eo_or, eo_ort, eo_andT, eo_orT, eo_orTt, eo_itet, eo_itef, eo_cons, eo_nx, eo_rt, eo_set, eo_rtO, eo_for, eo_immI, eo_immB, eo_immN, eo_part, eo_cutR, eo_put, eo_in, eo_raise, eo_for2, eo_xeV, eo_xeE, eo_xaV, eo_xaE, eo_bex, eo_trN, eo_trE, eo_unN, eo_r3, eo_forI, ea_at0, ea_add, ea_sub, ea_lt, ea_le, ea_gt, ea_eqI, ea_neI, ea_not, ea_truB, ea_seqL, ea_lenL, ea_lenR, ea_ixL, ea_ixR, ea_isBI, ea_isII, ea_asB, es_own0, es_ownS, es_all0, es_allS, es_sh0, es_shS, es_v1, es_v2, es_shO, es_drop0, es_dropS, es_dropSh, es_dropOw, es_dropN, es_ow0, es_owS, es_frz0, es_frzS, eb_bs, eb_ms, eb_mn, eb_s0, eb_sS, eb_mc, eb_mnil, eb_rS, eb_r0, eb_ca, eb_na, $xs,*] $[$loc]?)
local macro_rules | `(tactic| simp_all! only [$xs,*]) => `(tactic| simp only [ev_var0, ev_varS, ev_C, ev_d2, ev_d1, ev_test, ev_truth, ev_andT, ev_orT, ev_notT, ev_and, ev_or, ev_args0, ev_argsS, ev_call, ev_callL, ev_mkL, ev_mkT, ev_mkFlat, ev_mkImm, ev_is, ev_seq, ev_rng1, ev_rng2, ev_comp, ev_part, ev_nopart, ev_cut, ev_seqO, ev_skip, ev_asgS, ev_asgI, ev_asgN, ev_retI, ev_retN, ev_retS, ev_retO, ev_ifO, ev_forO, ev_frz, ev_st0, ev_st1, ev_m0, ev_m1, ev_app0N, ev_ins0N, ev_small, ev_enum, ev_chain, ev_din', ev_dput, ev_cat, ev_raise, ev_callX, ev_forO2, ev_rep, ev_exprX, ev_asgX, ev_try, ev_asX, ev_ret3, ev_forI, ev_catS, ev_iv1, ev_ext0D, ev_st0N, eo_2, eo_and, eo_andf, eo_or, eo_ort, eo_andT, eo_orT, eo_orTt, eo_itet, eo_itef, eo_cons, eo_nx, eo_rt, eo_set, eo_rtO, eo_for, eo_immI, eo_immB, eo_immN, eo_part, eo_cutR, eo_put, eo_in, eo_raise, eo_for2, eo_xeV, eo_xeE, eo_xaV, eo_xaE, eo_bex, eo_trN, eo_trE, eo_unN, eo_r3, eo_forI, ea_at0, ea_add, ea_sub, ea_lt, ea_le, ea_gt, ea_eqI, ea_neI, ea_not, ea_truB, ea_seqL, ea_lenL, ea_lenR, ea_ixL, ea_ixR, ea_isBI, ea_isII, ea_asB, es_own0, es_ownS, es_all0, es_allS, es_sh0, es_shS, es_v1, es_v2, es_shO, es_drop0, es_dropS, es_dropSh, es_dropOw, es_dropN, es_ow0, es_owS, es_frz0, es_frzS, eb_bs, eb_ms, eb_mn, eb_s0, eb_sS, eb_mc, eb_mnil, eb_rS, eb_r0, eb_ca, eb_na, Int.reduceEq, Int.reduceLT, Int.reduceLE, Int.reduceGT, Int.reduceAdd, Int.reduceSub, Int.reduceMul, Int.reduceNeg, decide_true, decide_false, Bool.or_false, Bool.false_or, Bool.or_true, Bool.true_or, Bool.and_true, Bool.true_and, Bool.and_false, Bool.false_and, Bool.not_true, Bool.not_false, $xs,*])
theorem cell_at (ns : List Int) (k : Nat) : ∃ c : Int, m__law_cell_at [.scr ns, .int (k : Int)] = some (.int c) := by
 by_cases h : k < ns.length
 ·refine ⟨ns[k], run_of rfl ?_⟩
  have h' : decide ((k : Int) < (ns.length : Int)) = true := by simp; omega
  simp! only [g__law_cell_at, h', at_nat h, hol_some]
 ·refine ⟨0, run_of rfl ?_⟩
  have h' : decide ((k : Int) < (ns.length : Int)) = false := by simp; omega
  simp! only [g__law_cell_at, h', hol_some]
structure Full (m : Nat) (T : List (List Bool)) : Prop where
 sq : Sq m T
 own : ∀ i < m, at2 T i i = false
 two : ∀ i < m, ∀ j < m, i ≠ j → at2 T i j = !at2 T j i
theorem at2_false {m i j : Nat} : at2 (List.replicate m (List.replicate m false)) i j = false := by
 unfold at2
 simp only [List.getD, List.getElem?_replicate]
 by_cases h : i < m
 ·simp only [h, if_true, Option.getD_some, List.getElem?_replicate]
  by_cases h2 : j < m <;> simp [h2]
 ·simp [h]
theorem at2_set {T : List (List Bool)} {i j a b : Nat} {v : Bool} (hi : i < T.length) (hj : j < T[i].length) : at2 (T.set i (T[i].set j v)) a b = if a = i ∧ b = j then v else at2 T a b := by
 unfold at2
 by_cases h : a = i
 ·subst h
  simp only [List.getD, List.getElem?_set_self hi, Option.getD_some, List.getElem?_eq_getElem hi]
  by_cases h2 : b = j
  ·subst h2
   simp [hj]
  ·simp [h2, List.getElem?_set_ne (Ne.symm h2)]
 ·simp only [List.getD, List.getElem?_set_ne (Ne.symm h)]
  simp [h]
structure Up (m : Nat) (T : List (List Bool)) (n n2 : Nat) : Prop where
 own : ∀ i < m, at2 T i i = false
 two : ∀ i j, i < j → j < m → i < n ∨ (i = n ∧ j < n2) → at2 T i j = !at2 T j i
theorem up0 {m : Nat} : Up m (List.replicate m (List.replicate m false)) 0 0 := ⟨fun _ _ => at2_false, fun _ _ _ _ h => by omega⟩
theorem Up.begin {m n : Nat} {T : List (List Bool)} (F : Up m T n 0) : Up m T n (n + 1) := ⟨F.own, fun i j h1 h2 h => F.two i j h1 h2 (by omega)⟩
theorem Up.row {m n : Nat} {T : List (List Bool)} (F : Up m T n m) : Up m T (n + 1) 0 := ⟨F.own, fun i j h1 h2 h => F.two i j h1 h2 (by omega)⟩
theorem Up.full {m : Nat} {T : List (List Bool)} (F : Up m T m 0) (sq : Sq m T) : Full m T := ⟨sq, F.own, fun i hi j hj hij => by
 by_cases h : i < j
 ·exact F.two i j h hj (.inl hi)
 ·rw [F.two j i (by omega) hi (.inl hj), Bool.not_not]⟩
theorem Up.next {m n j : Nat} {T : List (List Bool)} {b : Int} (F : Up m T n j) (sq : Sq m T) (hnj : n < j) (hj : j < m) (hb : b = 0 ∨ b = 1) (h1 : n < T.length) (h3 : j < (T.set n (T[n].set j (decide (b = 0)))).length) :
  Up m ((T.set n (T[n].set j (decide (b = 0)))).set j ((T.set n (T[n].set j (decide (b = 0))))[j].set n (decide (b = 1)))) n (j + 1) := by
 have h2 : j < T[n].length := by rw [sq.row h1]; exact hj
 have sq1 : Sq m (T.set n (T[n].set j (decide (b = 0)))) := sq.set h1
 have h4 : n < (T.set n (T[n].set j (decide (b = 0))))[j].length := by rw [sq1.row h3]; omega
 have e : ∀ x y, at2 ((T.set n (T[n].set j (decide (b = 0)))).set j ((T.set n (T[n].set j (decide (b = 0))))[j].set n (decide (b = 1)))) x y = if x = j ∧ y = n then decide (b = 1) else if x = n ∧ y = j then decide (b = 0) else at2 T x y := fun x y => by
  rw [at2_set h3 h4, at2_set h1 h2]
 refine ⟨fun i hi => ?_, fun i k hik hk h => ?_⟩
 ·rw [e, if_neg (by omega), if_neg (by omega)]
  exact F.own i hi
 ·rw [e, e]
  by_cases z : i = n ∧ k = j
  ·obtain ⟨rfl, rfl⟩ := z
   rw [if_neg (by omega), if_pos ⟨rfl, rfl⟩, if_pos ⟨rfl, rfl⟩]
   rcases hb with rfl | rfl <;> rfl
  ·rw [if_neg (by omega), if_neg z, if_neg (by omega), if_neg (by omega)]
   exact F.two i k hik hk (by omega)
theorem tab6 {m : Nat} (hm : m ≤ 1000) {x0 : Option D} {a2 a3 a4 a5 : Option D} : compX (some (rngL 0 m)) (compF dYes (mkFlat (dRep (mkL (dArgs [dC (.bl false)])) (dVar 1))) [x0, some (.int (m : Int)), a2, a3, a4, a5]) = some ((List.replicate m (List.replicate m false)).map rowD) := by
 rw [rng_nat, cx_all (fun _ => rowD (List.replicate m false)) (by simp; omega) fun x hx => ?_]
 ·congr 1
  apply List.ext_getElem <;> simp
 ·have e : (List.replicate m (D.bl false)) = (List.replicate m false).map bD := by rw [List.map_replicate]; rfl
  simp! only [eo_repN (show m ≤ 1000000 by omega), e, eo_flat (imms_map_bD _)]
  rfl
theorem tableby_eq (c : Int) (m : Nat) (hm : m ≤ 8) : hol (m__law_table_by [.int c, .int (m : Int)]) fun d => ∃ T, d = tabD T ∧ Full m T := by
 refine hol_run rfl ?_
 have f1 : mulI (.int c) (.int 48271) = some (.int (c * 48271)) := ea_mul (.inr (by omega))
 obtain ⟨r0, f2⟩ : ∃ r0 : Int, modI (.int (c * 48271)) (.int 2147483647) = some (.int r0) := ⟨_, ea_mod (by omega)⟩
 have tl : D.lst ((List.replicate m (List.replicate m false)).map rowD) = tabD (List.replicate m (List.replicate m false)) := rfl
 simp! only [g__law_table_by, f1, f2, rng1_nat (show m ≤ 1000000 by omega), tab6 (show m ≤ 1000 by omega), tl]
 refine hol_bindO (I := fun s => ∃ (T : List (List Bool)) (o3 o4 o5 : Option SD), s = [some (.sh (.int c)), some (.sh (.int (m : Int))), some (.ow (tabD T)), o3, o4, o5] ∧ Full m T) ?_ ?_
 ·refine for_rng (fun n s => ∃ (T : List (List Bool)) (a : Int) (o4 o5 : Option SD), s = [some (.sh (.int c)), some (.sh (.int (m : Int))), some (.ow (tabD T)), some (.sh (.int a)), o4, o5] ∧ Sq m T ∧ Up m T n 0) ?_ ?_ ?_
  ·exact ⟨_, r0, none, none, rfl, ⟨by simp, by simp⟩, up0⟩
  ·rintro n hn s ⟨T, a, o4, o5, rfl, sq, F⟩
   have hr2 : rng2 (some (.int ((n : Int) + 1))) (some (.int (m : Int))) = some (rngL ((n : Int) + 1) ((m : Int) - ((n : Int) + 1)).toNat) := eo_rng2 ⟨by omega, by omega, by omega, by omega⟩
   simp! only [Int.zero_add, hr2]
   refine for_rng (fun n2 s => ∃ (T : List (List Bool)) (a : Int) (o5 : Option SD), s = [some (.sh (.int c)), some (.sh (.int (m : Int))), some (.ow (tabD T)), some (.sh (.int a)), some (.sh (.int (n : Int))), o5] ∧ Sq m T ∧ Up m T n (n + 1 + n2)) ?_ ?_ ?_
   ·exact ⟨T, a, o5, rfl, sq, F.begin⟩
   ·rintro n2 hn2 s ⟨T, a, o5, rfl, sq, F⟩
    obtain ⟨j, hj⟩ : ∃ j : Nat, j = n + 1 + n2 := ⟨_, rfl⟩
    have hj' : (n : Int) + 1 + (n2 : Int) = (j : Int) := by omega
    have hjm : j < m := by omega
    rw [← hj] at F
    obtain ⟨r, hr3, hb⟩ : ∃ r : Int, modI (.int a) (.int 2) = some (.int r) ∧ (r = 0 ∨ r = 1) := ⟨_, ea_mod (by omega), Int.emod_two_eq _⟩
    obtain ⟨b, g2⟩ : ∃ b : Int, divI (.int a) (.int 2) = some (.int b) := ⟨_, ea_div ⟨by omega, by omega⟩⟩
    have h1 : n < T.length := by rw [sq.1]; exact hn
    have h2 : j < T[n].length := by rw [sq.row h1]; exact hjm
    have e1 := st1_tabV (v := decide (r = 0)) h1 h2
    have sq1 : Sq m (T.set n (T[n].set j (decide (r = 0)))) := sq.set h1
    have h3 : j < (T.set n (T[n].set j (decide (r = 0)))).length := by rw [sq1.1]; exact hjm
    have h4 : n < (T.set n (T[n].set j (decide (r = 0))))[j].length := by rw [sq1.row h3]; exact hn
    have e2 := st1_tabV (v := decide (r = 1)) h3 h4
    simp! only [hj', g2, hr3, e1, e2, hol_some]
    have F2 := F.next sq (by omega) hjm hb h1 h3
    have ej : n + 1 + (n2 + 1) = j + 1 := by omega
    rw [ej]
    exact ⟨_, _, _, rfl, sq1.set h3, F2⟩
   ·rintro s ⟨T, a, o5, rfl, sq, F⟩
    have hz : n + 1 + ((m : Int) - ((n : Int) + 1)).toNat = m := by omega
    rw [hz] at F
    exact ⟨T, _, _, _, rfl, sq, F.row⟩
  ·rintro s ⟨T, a, o4, o5, rfl, sq, F⟩
   exact ⟨_, rfl, T, _, _, _, rfl, F.full sq⟩
 ·rintro s ⟨T, o3, o4, o5, rfl, F⟩
  simp! only [hol_some]
  exact ⟨_, rfl, T, rfl, F⟩
def prD (z : Nat × Nat) : D := .tup [.int (z.1 : Int), .int (z.2 : Int)]
def prsD (hs : List (Nat × Nat)) : D := .lst (hs.map prD)
def tabsD (Is : List (List (List Bool))) : D := .lst (Is.map tabD)
theorem len_prs {hs : List (Nat × Nat)} : lenF [prsD hs] = some (.int (hs.length : Int)) := len_map
structure Part (Is : List (List (List Bool))) (hs : List (Nat × Nat)) : Prop where
 inn : ∀ k, k < Is.length → Full (Is.getD k []).length (Is.getD k []) ∧ 0 < (Is.getD k []).length
 mem : ∀ z, z ∈ hs ↔ z.1 < Is.length ∧ z.2 < (Is.getD z.1 []).length
 nd : hs.Nodup
structure Mix (O : List (List Bool)) (Is : List (List (List Bool))) (hs : List (Nat × Nat)) : Prop where
 out : Full O.length O
 pos : 0 < O.length
 o8 : O.length ≤ 8
 len : Is.length = O.length
 prt : Part Is hs
 le : hs.length ≤ 8
theorem getD_snoc {α : Type} {xs : List α} {x d : α} {k : Nat} : (xs ++ [x]).getD k d = if k < xs.length then xs.getD k d else if k = xs.length then x else d := by
 by_cases h : k < xs.length
 ·rw [if_pos h]
  simp [List.getD, List.getElem?_append_left h]
 ·rw [if_neg h]
  by_cases h2 : k = xs.length
  ·subst h2
   simp [List.getD]
  ·rw [if_neg h2]
   have : (xs ++ [x])[k]? = none := by rw [List.getElem?_eq_none_iff]; simp; omega
   simp [List.getD, this]
theorem mixed_eq (ns : List Int) : hol (m__law_mixed [.scr ns]) fun d => ∃ O Is hs, d = .lst [tabD O, tabsD Is, prsD hs] ∧ Mix O Is hs := by
 refine hol_run rfl ?_
 obtain ⟨c0, e0⟩ := cell_at ns 0
 have e0 : m__law_cell_at [.scr ns, .int 0] = some (.int c0) := e0
 obtain ⟨c1, e1⟩ := cell_at ns 1
 have e1 : m__law_cell_at [.scr ns, .int 1] = some (.int c1) := e1
 obtain ⟨k, ek, hk⟩ := mod_nat (x := c0) (n := 4) (by omega)
 have f1 : modI (.int c0) (.int 4) = some (.int (k : Int)) := by rw [ea_mod (by omega)]; exact congrArg _ (congrArg _ ek)
 have f2 : divI (.int c0) (.int 4) = some (.int (c0 / 4)) := ea_div ⟨by omega, by omega⟩
 obtain ⟨r, f3⟩ : ∃ r : Int, modI (.int (c0 / 4)) (.int 4) = some (.int r) := ⟨_, ea_mod (by omega)⟩
 have nil1 : D.lst [] = tabsD [] := rfl
 simp! only [g__law_mixed, e0, f1, f2, f3]
 refine hol_bindO (I := fun s => ∃ m : Nat, s = [some (.sh (.scr ns)), some (.sh (.int (m : Int))), none, none, none, none, none, none, none, none, none] ∧ 0 < m ∧ m ≤ 8) ?_ ?_
 ·by_cases hr : r = 1
  ·simp! only [hr, decide_true, hol_some]
   exact ⟨_, rfl, 1 + k + 4, by congr 3, by omega, by omega⟩
  ·simp! only [decide_eq_false hr, hol_some]
   exact ⟨_, rfl, 1 + k, by congr 3, by omega, by omega⟩
 rintro s ⟨m, rfl, h0, h8⟩
 obtain ⟨_, e2, O, rfl, F⟩ := tableby_eq c1 m h8
 have hO : O.length = m := F.sq.1
 simp! only [e1, e2, flat_nil, len_tab, hO, iv1_nat (show m ≤ 1000000 by omega)]
 refine hol_bindO (I := fun s => ∃ (Is : List (List (List Bool))) (hs : List (Nat × Nat)) (o5 o6 o7 o8 o9 o10 : Option SD), s = [some (.sh (.scr ns)), some (.sh (.int (m : Int))), some (.ow (tabD O)), some (.ow (tabsD Is)), some (.ow (prsD hs)), o5, o6, o7, o8, o9, o10] ∧ Is.length = m ∧ Part Is hs ∧ hs.length ≤ 8) ?_ ?_
 ·refine for_rng (fun n s => ∃ (Is : List (List (List Bool))) (hs : List (Nat × Nat)) (o5 o6 o7 o8 o9 o10 : Option SD), s = [some (.sh (.scr ns)), some (.sh (.int (m : Int))), some (.ow (tabD O)), some (.ow (tabsD Is)), some (.ow (prsD hs)), o5, o6, o7, o8, o9, o10] ∧ Is.length = n ∧ Part Is hs ∧ hs.length + m ≤ 8 + n) ?_ ?_ ?_
  ·exact ⟨[], [], none, none, none, none, none, none, rfl, rfl, ⟨fun k h => absurd h (by simp), fun z => by simp, List.nodup_nil⟩, by simpa using h8⟩
  ·rintro n hn s ⟨Is, hs, o5, o6, o7, o8, o9, o10, rfl, hI, P, hl⟩
   obtain ⟨c, ec⟩ := cell_at ns (2 + n)
   have ec : m__law_cell_at [.scr ns, .int (2 + (n : Int))] = some (.int c) := by rw [← ec]; congr 3
   obtain ⟨most, hmost⟩ : ∃ most : Nat, (9 : Int) - (hs.length : Int) - (m : Int) + (n : Int) = (most : Int) := ⟨9 + n - hs.length - m, by omega⟩
   have hm1 : 0 < most := by omega
   have hm8 : most + hs.length + m = 9 + n := by omega
   obtain ⟨j4, ej4, hj4⟩ := mod_nat (x := c) (n := 4) (by omega)
   have g1 : modI (.int c) (.int 4) = some (.int (j4 : Int)) := by rw [ea_mod (by omega)]; exact congrArg _ (congrArg _ ej4)
   have g2 : divI (.int c) (.int 4) = some (.int (c / 4)) := ea_div ⟨by omega, by omega⟩
   obtain ⟨jm, ejm, hjm⟩ := mod_nat (x := c / 4) (n := most) (by omega)
   have g3 : modI (.int (c / 4)) (.int (most : Int)) = some (.int (jm : Int)) := by rw [ea_mod (by omega), ejm]
   have g4 : divI (.int c) (.int 32) = some (.int (c / 32)) := ea_div ⟨by omega, by omega⟩
   obtain ⟨sz, esz, hs1, hs2⟩ : ∃ sz : Nat, atI [D.int 1, .int (if (most : Int) < 3 then (most : Int) else 3), .int (1 + (jm : Int))] (if (2 : Int) < (j4 : Int) then 2 else (j4 : Int)) = some (.int (sz : Int)) ∧ 0 < sz ∧ sz ≤ most := by
    have : j4 = 0 ∨ j4 = 1 ∨ j4 = 2 ∨ j4 = 3 := by omega
    rcases this with rfl | rfl | rfl | rfl
    ·exact ⟨1, rfl, by omega, by omega⟩
    ·by_cases h3 : (most : Int) < 3
     ·exact ⟨most, by rw [if_pos h3]; rfl, by omega, by omega⟩
     ·exact ⟨3, by rw [if_neg h3]; rfl, by omega, by omega⟩
    ·exact ⟨1 + jm, rfl, by omega, by omega⟩
    ·exact ⟨1 + jm, rfl, by omega, by omega⟩
   obtain ⟨_, e3, T, rfl, FT⟩ := tableby_eq (c / 32) sz (by omega)
   have hT : T.length = sz := FT.sq.1
   have ap : m0V appF (some (tabsD Is)) (some [tabD T]) = some (tabsD (Is ++ [T])) := app_mapV (by omega)
   simp! only [Int.zero_add, ec, len_prs, len_tab, hO, hmost, g1, g2, g3, g4, ea_min, esz, e3, ap, rng1_nat (show sz ≤ 1000000 by omega)]
   refine for_rng (fun a s => ∃ (hs' : List (Nat × Nat)) (o9 o10 : Option SD), s = [some (.sh (.scr ns)), some (.sh (.int (m : Int))), some (.ow (tabD O)), some (.ow (tabsD (Is ++ [T]))), some (.ow (prsD hs')), some (.sh (.int (n : Int))), some (.ow (.int c)), some (.sh (.int (most : Int))), some (.sh (.int (sz : Int))), o9, o10] ∧ hs'.length = hs.length + a ∧ hs'.Nodup ∧ ∀ z, z ∈ hs' ↔ z ∈ hs ∨ (z.1 = n ∧ z.2 < a)) ?_ ?_ ?_
   ·exact ⟨hs, _, _, rfl, rfl, P.nd, fun z => by simp⟩
   ·rintro a ha s ⟨hs', o9, o10, rfl, hl', nd', mem'⟩
    obtain ⟨c6, ec6⟩ := cell_at ns (6 + hs'.length)
    have ec6 : m__law_cell_at [.scr ns, .int (6 + (hs'.length : Int))] = some (.int c6) := by rw [← ec6]; congr 3
    obtain ⟨t, et, ht⟩ := mod_nat (x := c6) (n := hs'.length + 1) (by omega)
    have et : c6 % ((hs'.length : Int) + 1) = (t : Int) := et
    have m1 : modI (.int c6) (.int ((hs'.length : Int) + 1)) = some (.int (t : Int)) := by rw [ea_mod (show (0 : Int) < (hs'.length : Int) + 1 by omega), et]
    have pe : D.tup [.int (n : Int), .int (a : Int)] = prD (n, a) := rfl
    have im : immsO (some [.int (t : Int), prD (n, a)]) = some [.int (t : Int), prD (n, a)] := eo_immsO rfl
    have iv : m0V insF (some (prsD hs')) (some [.int (t : Int), prD (n, a)]) = some (prsD (hs'.take t ++ (n, a) :: hs'.drop t)) := ins_mapV (by omega) (by omega)
    have pm : (hs'.take t ++ (n, a) :: hs'.drop t).Perm ((n, a) :: hs') := by
     refine List.perm_middle.trans ?_
     rw [List.take_append_drop]
    have hno : (n, a) ∉ hs' := fun h => by
     rcases (mem' _).mp h with h | h
     ·have := ((P.mem _).mp h).1
      simp only at this
      omega
     ·simp only at h
      omega
    simp! only [Int.zero_add, len_prs, ec6, m1, pe, im, iv, hol_some]
    refine ⟨_, _, _, rfl, ?_, ?_, fun z => ?_⟩
    ·rw [pm.length_eq, List.length_cons]; omega
    ·exact pm.nodup_iff.mpr (List.nodup_cons.mpr ⟨hno, nd'⟩)
    ·rw [pm.mem_iff, List.mem_cons, mem' z]
     constructor
     ·rintro (h | h | h)
      ·subst h; exact .inr ⟨rfl, by simp⟩
      ·exact .inl h
      ·exact .inr ⟨h.1, by omega⟩
     ·rintro (h | h)
      ·exact .inr (.inl h)
      ·by_cases hz : z.2 < a
       ·exact .inr (.inr ⟨h.1, hz⟩)
       ·exact .inl (Prod.ext h.1 (by show z.2 = a; omega))
   ·rintro s ⟨hs', o9, o10, rfl, hl', nd', mem'⟩
    refine ⟨_, _, _, _, _, _, _, _, rfl, by simp [hI], ⟨fun k hk => ?_, fun z => ?_, nd'⟩, by omega⟩
    ·rw [getD_snoc]
     rw [List.length_append, List.length_singleton] at hk
     by_cases h : k < Is.length
     ·rw [if_pos h]; exact P.inn k h
     ·rw [if_neg h, if_pos (by omega), hT]; exact ⟨FT, hs1⟩
    ·rw [mem' z, P.mem z, getD_snoc, List.length_append, List.length_singleton]
     by_cases h : z.1 < Is.length
     ·rw [if_pos h]
      constructor
      ·rintro (q | q)
       ·exact ⟨by omega, q.2⟩
       ·omega
      ·rintro q
       exact .inl ⟨h, q.2⟩
     ·rw [if_neg h]
      by_cases h2 : z.1 = Is.length
      ·rw [if_pos h2, hT]
       constructor
       ·rintro (q | q)
        ·omega
        ·exact ⟨by omega, q.2⟩
       ·rintro q
        exact .inr ⟨by omega, q.2⟩
      ·constructor
       ·rintro (q | q) <;> omega
       ·rintro q; omega
  ·rintro s ⟨Is, hs, o5, o6, o7, o8, o9, o10, rfl, hI, P, hl⟩
   exact ⟨_, rfl, Is, hs, _, _, _, _, _, _, rfl, hI, P, by omega⟩
 ·rintro s ⟨Is, hs, o5, o6, o7, o8, o9, o10, rfl, hI, P, hl⟩
  simp! only [hol_some]
  exact ⟨_, rfl, O, Is, hs, rfl, ⟨by rw [hO]; exact F, by omega, by omega, by omega, P, hl⟩⟩
def mixD (O : List (List Bool)) (Is : List (List (List Bool))) (hs : List (Nat × Nat)) : D := .lst [tabD O, tabsD Is, prsD hs]
theorem mix_0 {O : List (List Bool)} {Is : List (List (List Bool))} {hs : List (Nat × Nat)} : ixD (mixD O Is hs) (.int 0) = some (tabD O) := (rfl)
theorem mix_1 {O : List (List Bool)} {Is : List (List (List Bool))} {hs : List (Nat × Nat)} : ixD (mixD O Is hs) (.int 1) = some (tabsD Is) := (rfl)
theorem mix_2 {O : List (List Bool)} {Is : List (List (List Bool))} {hs : List (Nat × Nat)} : ixD (mixD O Is hs) (.int 2) = some (prsD hs) := (rfl)
theorem pr_0 {z : Nat × Nat} : ixD (prD z) (.int 0) = some (.int (z.1 : Int)) := (rfl)
theorem pr_1 {z : Nat × Nat} : ixD (prD z) (.int 1) = some (.int (z.2 : Int)) := (rfl)
def mb (O : List (List Bool)) (Is : List (List (List Bool))) (a b : Nat × Nat) : Bool := if a.1 = b.1 then at2 (Is.getD a.1 []) a.2 b.2 else at2 O a.1 b.1
def mtab (O : List (List Bool)) (Is : List (List (List Bool))) (hs : List (Nat × Nat)) : List (List Bool) := hs.map fun a => hs.map fun b => mb O Is a b
section
variable {O : List (List Bool)} {Is : List (List (List Bool))} {hs : List (Nat × Nat)}
theorem beats_eq (M : Mix O Is hs) {a b : Nat × Nat} (ha : a ∈ hs) (hb : b ∈ hs) : m__law_beats [mixD O Is hs, prD a, prD b] = some (.bl (mb O Is a b)) := by
 refine run_of rfl ?_
 obtain ⟨a1, a2⟩ := (M.prt.mem a).mp ha
 obtain ⟨b1, b2⟩ := (M.prt.mem b).mp hb
 by_cases h : a.1 = b.1
 ·have hd : decide ((a.1 : Int) = (b.1 : Int)) = true := by simp [h]
  have i1 : ixD (tabsD Is) (.int (a.1 : Int)) = some (tabD (Is.getD a.1 [])) := ix_mapD a1
  have i2 := ix2 (M.prt.inn a.1 a1).1.sq a2 (j := b.2) (by rw [h]; exact b2)
  simp! only [g__law_beats, pr_0, pr_1, hd, mix_1, i1, i2, hol_some]
  unfold mb
  rw [if_pos h]
 ·have hd : decide ((a.1 : Int) = (b.1 : Int)) = false := by simp; omega
  have i2 := ix2 M.out.sq (i := a.1) (j := b.1) (by rw [← M.len]; exact a1) (by rw [← M.len]; exact b1)
  simp! only [g__law_beats, pr_0, pr_1, hd, mix_0, i2, hol_some]
  unfold mb
  rw [if_neg h]
theorem seq_prs : seqD (prsD hs) = some (hs.map prD) := (rfl)
theorem mtable_eq (M : Mix O Is hs) : m__law_table [mixD O Is hs] = some (tabD (mtab O Is hs)) := by
 refine run_of rfl ?_
 simp! only [g__law_table, flat_nil, mix_2, seq_prs]
 refine hol_bindO (I := fun s => ∃ o2, s = [some (.sh (mixD O Is hs)), some (.ow (tabD (mtab O Is hs))), o2]) ?_ ?_
 ·refine for_map (fun pre s => ∃ o2, s = [some (.sh (mixD O Is hs)), some (.ow (tabD (pre.map fun a => hs.map fun b => mb O Is a b))), o2]) ⟨_, rfl⟩ ?_ fun s z => ⟨s, rfl, z⟩
  rintro pre a post e s ⟨o2, rfl⟩
  have ha : a ∈ hs := by rw [e]; simp
  have hpl : pre.length ≤ 8 := by
   have := M.le
   rw [e] at this
   simp at this
   omega
  simp! only [mix_2, seq_prs]
  rw [cx_all (enc := prD) (xs := hs) (fun b => bD (mb O Is a b)) (by have := M.le; omega) fun b hb => by simp! only [beats_eq M ha hb, bD]]
  have er : D.lst (hs.map fun b => bD (mb O Is a b)) = rowD (hs.map fun b => mb O Is a b) := by unfold rowD; rw [List.map_map]; rfl
  have ap : m0V appF (some (tabD (pre.map fun a => hs.map fun b => mb O Is a b))) (some [rowD (hs.map fun b => mb O Is a b)]) = some (tabD ((pre.map fun a => hs.map fun b => mb O Is a b) ++ [hs.map fun b => mb O Is a b])) := app_mapV (by simp; omega)
  simp! only [er, ap, hol_some]
  exact ⟨_, by rw [List.map_append]; rfl⟩
 ·rintro s ⟨o2, rfl⟩
  simp! only [hol_some]
theorem at_mtab {i j : Nat} (hi : i < hs.length) (hj : j < hs.length) : at2 (mtab O Is hs) i j = mb O Is hs[i] hs[j] := by
 unfold at2 mtab
 rw [getD_map hi, getD_map hj]
theorem sq_mtab : Sq hs.length (mtab O Is hs) := by
 refine ⟨by simp [mtab], fun r hr => ?_⟩
 obtain ⟨i, _, rfl⟩ := List.mem_map.mp hr
 simp
theorem full_mtab (M : Mix O Is hs) : Full hs.length (mtab O Is hs) := by
 refine ⟨sq_mtab, fun i hi => ?_, fun i hi j hj hij => ?_⟩
 ·rw [at_mtab hi hi]
  unfold mb
  rw [if_pos rfl]
  obtain ⟨a1, a2⟩ := (M.prt.mem hs[i]).mp (List.getElem_mem hi)
  exact (M.prt.inn _ a1).1.own _ a2
 ·rw [at_mtab hi hj, at_mtab hj hi]
  obtain ⟨a1, a2⟩ := (M.prt.mem hs[i]).mp (List.getElem_mem hi)
  obtain ⟨b1, b2⟩ := (M.prt.mem hs[j]).mp (List.getElem_mem hj)
  have hne : hs[i] ≠ hs[j] := fun h => hij ((List.getElem_inj M.prt.nd).mp h)
  unfold mb
  by_cases h : hs[i].1 = hs[j].1
  ·rw [if_pos h, if_pos h.symm, ← h]
   rw [← h] at b2
   exact (M.prt.inn _ a1).1.two _ a2 _ b2 fun e => hne (Prod.ext h e)
  ·rw [if_neg h, if_neg (Ne.symm h)]
   exact M.out.two _ (by rw [← M.len]; exact a1) _ (by rw [← M.len]; exact b1) h
theorem hs_pos (M : Mix O Is hs) : 0 < hs.length := by
 have h0 : 0 < Is.length := by rw [M.len]; exact M.pos
 have : ((0, 0) : Nat × Nat) ∈ hs := (M.prt.mem _).mpr ⟨h0, (M.prt.inn 0 h0).2⟩
 exact List.length_pos_of_mem this
def llD (L : List (List Nat)) : D := .lst (L.map thD)
def pc (hs : List (Nat × Nat)) (k : Nat) : List Nat := (List.range hs.length).filter fun t => decide ((hs.getD t (0, 0)).1 = k)
def pcs (n : Nat) (hs : List (Nat × Nat)) : List (List Nat) := (List.range n).map (pc hs)
theorem pieces_eq (M : Mix O Is hs) : m__law_pieces [mixD O Is hs] = some (llD (pcs O.length hs)) := by
 refine run_of rfl ?_
 have h8 := M.o8
 simp! only [g__law_pieces, flat_nil, mix_0, len_tab, iv1_nat (show O.length ≤ 1000000 by omega)]
 refine hol_bindO (I := fun s => ∃ o2, s = [some (.sh (mixD O Is hs)), some (.ow (llD (pcs O.length hs))), o2]) ?_ ?_
 ·refine for_rng (fun n s => ∃ o2, s = [some (.sh (mixD O Is hs)), some (.ow (llD (pcs n hs))), o2]) ⟨_, rfl⟩ ?_ fun s z => ⟨s, rfl, z⟩
  rintro n hn s ⟨o2, rfl⟩
  simp! only [Int.zero_add, mix_2, len_prs, rng1_nat (show hs.length ≤ 1000000 by have := M.le; omega)]
  rw [rng_nat, cx_of (enc := nD) (xs := List.range hs.length) (fun t => decide ((hs.getD t (0, 0)).1 = n)) nD (by have := M.le; simp; omega) (fun t ht => by
   have i1 : ixD (prsD hs) (.int (t : Int)) = some (prD (hs.getD t (0, 0))) := ix_mapD (List.mem_range.mp ht)
   have hd : decide (((hs.getD t (0, 0)).1 : Int) = (n : Int)) = decide ((hs.getD t (0, 0)).1 = n) := decide_eq_decide.mpr (by omega)
   simp! only [nD, mix_2, i1, pr_0, hd]) fun t ht _ => by simp! only [nD]]
  have ap : m0V appF (some (llD (pcs n hs))) (some [thD (pc hs n)]) = some (llD (pcs n hs ++ [pc hs n])) := app_mapV (by simp [pcs]; omega)
  have ef : flatO (some (((List.range hs.length).filter fun t => decide ((hs.getD t (0, 0)).1 = n)).map nD)) = some ((pc hs n).map nD) := flat_th _
  have et : D.lst ((pc hs n).map nD) = thD (pc hs n) := rfl
  simp! only [ef, et, ap, hol_some]
  exact ⟨_, by
   unfold pcs
   rw [List.range_succ, List.map_append]
   rfl⟩
 ·rintro s ⟨o2, rfl⟩
  simp! only [hol_some]
end
def seesB (T : List (List Bool)) (o : Nat) (th : List Nat) : Bool := (th.all fun j => at2 T o j) || !(th.any fun j => at2 T o j)
def brk (T : List (List Bool)) (o : Nat) (th : List Nat) : Bool := !th.contains o && !seesB T o th
def prt (T : List (List Bool)) (m : Nat) (th : List Nat) : List Nat := (List.range m).filter fun o => brk T o th
def togB (T : List (List Bool)) (m : Nat) (th : List Nat) : Bool := (List.range m).all fun o => !brk T o th
section
variable {T : List (List Bool)} {m : Nat} {th : List Nat}
theorem sees_eq (sq : Sq m T) (hm : m ≤ 900) {o : Nat} (ho : o < m) (hl : th.length ≤ 900) (h : ∀ x ∈ th, x < m) : m_sees_as_one [tabD T, .int (o : Int), thD th] = some (.bl (seesB T o th)) := by
 refine run_of rfl ?_
 simp! only [g_sees_as_one, seq_th]
 rw [cx_all (fun j => bD (at2 T o j)) (by omega) fun j hj => by simp! only [nD, ix2 sq ho (h j hj), bD]]
 have e : (th.map fun j => bD (at2 T o j)) = (th.map fun j => at2 T o j).map bD := by rw [List.map_map]; rfl
 have e2 : ((th.map fun j => at2 T o j).all fun b => b) = th.all fun j => at2 T o j := by rw [List.all_map]; rfl
 have e3 : ((th.map fun j => at2 T o j).any fun b => b) = th.any fun j => at2 T o j := by rw [List.any_map]; rfl
 simp! only [e, eo_flat (imms_map_bD _), ea_all, ea_any, e2, e3, hol_some]
 unfold seesB
 cases (th.all fun j => at2 T o j) <;> simp! only [hol_some, Bool.false_or, Bool.true_or]
theorem parting_eq (sq : Sq m T) (hm : m ≤ 900) (hl : th.length ≤ 900) (h : ∀ x ∈ th, x < m) : m_parting [tabD T, thD th] = some (thD (prt T m th)) := by
 refine run_of rfl ?_
 simp! only [g_parting, len_tab, sq.1, rng1_nat (show m ≤ 1000000 by omega)]
 rw [rng_nat, cx_of (enc := nD) (xs := List.range m) (fun o => brk T o th) nD (by simp; omega) (fun o ho => by
  have ho := List.mem_range.mp ho
  simp! only [nD, nin_ths, sees_eq sq hm ho hl h]
  unfold brk
  cases th.contains o <;> cases seesB T o th <;> simp! only [Bool.not_true, Bool.not_false, Bool.and_true, Bool.and_false, Bool.false_and, Bool.true_and, Option.map_some]) fun o _ _ => by simp! only [nD]]
 simp! only [flat_th, hol_some]
 rfl
end
section
variable {T : List (List Bool)} {m : Nat} {th : List Nat}
theorem stog_eq (sq : Sq m T) (hm : m ≤ 900) (hl : th.length ≤ 900) (h : ∀ x ∈ th, x < m) : m_stands_together [tabD T, thD th] = some (.bl (togB T m th)) := by
 refine run_of rfl ?_
 simp! only [g_stands_together, parting_eq sq hm hl h, len_th, hol_some]
 congr 2
 unfold togB prt
 by_cases e : ((List.range m).all fun o => !brk T o th) = true
 ·rw [e]
  have : (List.range m).filter (fun o => brk T o th) = [] := by
   rw [List.filter_eq_nil_iff]
   intro o ho hb
   have := List.all_eq_true.mp e o ho
   rw [hb] at this
   cases this
  rw [this]
  rfl
 ·rw [Bool.not_eq_true] at e
  rw [e]
  apply decide_eq_false
  intro z
  have z' : ((List.range m).filter fun o => brk T o th) = [] := List.eq_nil_of_length_eq_zero (by omega)
  rw [List.filter_eq_nil_iff] at z'
  have : ((List.range m).all fun o => !brk T o th) = true := List.all_eq_true.mpr fun o ho => by
   have := z' o ho
   simpa using this
  rw [this] at e
  cases e
end
theorem picked_eq {r : List Bool} {th : List Nat} (hl : th.length ≤ 1000) (h : ∀ x ∈ th, x < r.length) : m_picked [rowD r, thD th] = some (rowD (th.map fun j => r.getD j false)) := by
 refine run_of rfl ?_
 have hl' : (th.map nD).length ≤ 1000000 := by rw [List.length_map]; omega
 have hc : compL (compF dYes (d2 ixD (dVar 0) (dVar 2)) [some (rowD r), some (thD th)]) (th.map nD) = some ((th.map fun j => r.getD j false).map bD) := by
  rw [List.map_map]
  exact comp_ofAll (fun j : Nat => bD (r.getD j false)) fun j hj => by simp! only [nD, ix_row' (h j hj), bD]
 have fl := eo_flat (imms_map_bD (th.map fun j => r.getD j false))
 simp! only [g_picked, seq_th, eo_comp hl', hc, fl, hol_some]
 rfl
theorem part_eq {n : Nat} {T : List (List Bool)} (sq : Sq n T) {th : List Nat} (hl : th.length ≤ 1000) (h : ∀ x ∈ th, x < n) : m_part [tabD T, thD th] = some (tabD (gridT th (at2 T))) := by
 refine run_of rfl ?_
 have hl' : (th.map nD).length ≤ 1000000 := by rw [List.length_map]; omega
 have hc : compL (compF dYes (dCall m_picked [d2 ixD (dVar 0) (dVar 2), dVar 1]) [some (tabD T), some (thD th)]) (th.map nD) = some ((gridT th (at2 T)).map rowD) := by
  unfold gridT
  rw [List.map_map]
  exact comp_ofAll (fun i : Nat => rowD (th.map fun j => at2 T i j)) fun i hi => by
   have p := picked_eq (r := T.getD i []) (th := th) hl (fun x hx => by rw [sq.len (h i hi)]; exact h x hx)
   simp! only [nD, ix_tab' (show i < T.length by rw [sq.1]; exact h i hi), p]
   rfl
 simp! only [g_part, seq_th, eo_comp hl', hc, hol_some]
 rfl
theorem thing_eq (x : Int) (m : Nat) : m_is_thing [.int x, .int (m : Int)] = some (.bl (decide (0 ≤ x) && decide (x < (m : Int)))) := by
 refine run_of rfl ?_
 have c : chO leI ltI (some (.int 0)) (some (.int x)) (some (.int (m : Int))) = some (.bl (decide (0 ≤ x) && decide (x < (m : Int)))) := eo_chain ea_le ea_lt
 simp_all! only [g_is_thing, c, hol_some]
def tk (m : Nat) : List Int → List Int → Bool
 | _, [] => true
 | p, x :: r => ((decide (0 ≤ x) && decide (x < (m : Int))) && !p.contains x) && tk m (p ++ [x]) r
theorem tk_true {m : Nat} : ∀ {o p : List Int}, tk m p o = true → (∀ x ∈ o, 0 ≤ x ∧ x < (m : Int)) ∧ o.Nodup ∧ ∀ x ∈ o, x ∉ p
 | [], _, _ => ⟨(fun _ h => nomatch h), List.Pairwise.nil, (fun _ h => nomatch h)⟩
 | x :: r, p, h => by
  have h := Bool.and_eq_true_iff.mp h
  have h1 := Bool.and_eq_true_iff.mp h.1
  have h2 := Bool.and_eq_true_iff.mp h1.1
  obtain ⟨a, b, c⟩ := tk_true h.2
  have hx : 0 ≤ x ∧ x < (m : Int) := ⟨of_decide_eq_true h2.1, of_decide_eq_true h2.2⟩
  have hp : x ∉ p := by have := h1.2; simpa using this
  refine ⟨fun y hy => ?_, List.nodup_cons.mpr ⟨fun z => c x z (by simp), b⟩, fun y hy => ?_⟩
  ·rcases List.mem_cons.mp hy with z | z
   ·rw [z]; exact hx
   ·exact a y z
  ·rcases List.mem_cons.mp hy with z | z
   ·rw [z]; exact hp
   ·exact fun q => c y z (by simp [q])
theorem tk_good {m : Nat} : ∀ {o p : List Int}, (∀ x ∈ o, 0 ≤ x ∧ x < (m : Int)) → o.Nodup → (∀ x ∈ o, x ∉ p) → tk m p o = true
 | [], _, _, _, _ => rfl
 | x :: r, p, h1, h2, h3 => by
  have hx := h1 x List.mem_cons_self
  have nd := List.nodup_cons.mp h2
  have hp := h3 x List.mem_cons_self
  have ih := tk_good (m := m) (o := r) (p := p ++ [x]) (fun y hy => h1 y (List.mem_cons_of_mem _ hy)) nd.2 fun y hy z => by
   rcases List.mem_append.mp z with z | z
   ·exact h3 y (List.mem_cons_of_mem _ hy) z
   ·rw [List.mem_singleton] at z; exact nd.1 (z ▸ hy)
  show (((decide (0 ≤ x) && decide (x < (m : Int))) && !p.contains x) && tk m (p ++ [x]) r) = true
  have hc : p.contains x = false := by rw [← Bool.not_eq_true, List.contains_iff_mem]; exact hp
  rw [ih, hc, decide_eq_true hx.1, decide_eq_true hx.2]
  rfl
def tellsB (m : Nat) (o : List Int) : Bool := decide ((o.length : Int) = (m : Int)) && tk m [] o
theorem told_has {p : List Int} {x : Int} : inK (.int x) (toldD p) = some (p.contains x) := by
 show some (hasK (p.map Sum.inl) (.inl x)) = _
 congr 1
 unfold hasK
 rw [List.any_map, List.contains_eq_any_beq]
 congr 1
 funext y
 show decide ((Sum.inl y : Key) = Sum.inl x) = (x == y)
 by_cases h : y = x
 ·subst h; simp
 ·have h1 : decide ((Sum.inl y : Key) = Sum.inl x) = false := decide_eq_false fun z => h (by cases z; rfl)
  have h2 : (x == y) = false := by rw [beq_eq_false_iff_ne]; exact fun z => h z.symm
  rw [h1, h2]
theorem for_list {i : Nat} {b : SS → Option Out} {m : Nat} {d : D} (J : List Int → SS → Prop) : ∀ {o p : List Int} {s : SS}, p.length + o.length ≤ 1000000 → J p s →
  (∀ p x s, p.length ≤ 1000000 → J p s → hol (b (s.set i (some (.sh (.int x))))) fun r => if (((decide (0 ≤ x) && decide (x < (m : Int))) && !p.contains x)) = true then ∃ s', r = .nx s' ∧ J (p ++ [x]) s' else r = .rt d) →
  hol (forD i b (o.map .int) s) fun r => if tk m p o = true then ∃ s' p', r = .nx s' ∧ J p' s' else r = .rt d
 | [], p, s, _, h0, _ => ⟨_, rfl, (if_pos rfl).mpr ⟨s, p, rfl, h0⟩⟩
 | x :: r, p, s, hn, h0, hs => by
  have hn : p.length + (r.length + 1) ≤ 1000000 := hn
  obtain ⟨o, e, q⟩ := hs p x s (by omega) h0
  rw [List.map_cons]
  unfold forD
  rw [e]
  show hol _ fun q => if (((decide (0 ≤ x) && decide (x < (m : Int))) && !p.contains x) && tk m (p ++ [x]) r) = true then _ else _
  cases hc : ((decide (0 ≤ x) && decide (x < (m : Int))) && !p.contains x) with
  | true =>
   rw [hc, if_pos rfl] at q
   obtain ⟨s1, rfl, h1⟩ := q
   rw [Bool.true_and]
   exact for_list J (by simp; omega) h1 hs
  | false =>
   rw [hc, if_neg Bool.false_ne_true] at q
   subst q
   rw [Bool.false_and]
   exact ⟨_, rfl, (if_neg Bool.false_ne_true).mpr rfl⟩
theorem len_il {o : List Int} : lenF [.lst (o.map D.int)] = some (.int (o.length : Int)) := by
 show some (D.int (((o.map D.int).length : Nat) : Int)) = _
 rw [List.length_map]
theorem ll_il {o : List Int} : ((o.map D.int).length : Int) = (o.length : Int) := by rw [List.length_map]
theorem tells_list {m : Nat} {o : List Int} (hl : o.length ≤ 1000) : m_tells_each_once [.lst (o.map .int), .int (m : Int)] = some (.bl (tellsB m o)) := by
 refine run_of rfl ?_
 have t0 : D.dct [] [] = toldD [] := rfl
 unfold tellsB
 cases hd : decide ((o.length : Int) = (m : Int)) with
 | false =>
  simp_all! only [g_tells_each_once, ll_il, hd, hol_some]
 | true =>
  simp_all! only [g_tells_each_once, ll_il, hd, t0]
  obtain ⟨r, e, q⟩ := for_list (i := 3) (m := m) (d := .bl false) (b := (seqO (ifO (dOrT (dNotT (dTruth (dCall m_is_thing [(dVar 3), (dVar 1)]))) (dDIn (dVar 3) (dVar 2))) (retI (dC (.bl false))) skipO) (dput 2 (dVar 3) (dC (.bl true))))) (fun p s => ∃ o3, s = [some (.sh (.lst (o.map .int))), some (.sh (.int (m : Int))), some (.ow (toldD p)), o3]) (o := o) (p := []) (s := [some (.sh (.lst (o.map .int))), some (.sh (.int (m : Int))), some (.ow (toldD [])), none]) (by simp; omega) ⟨_, rfl⟩ (by
   rintro p x s hp ⟨o3, rfl⟩
   have th := thing_eq x m
   cases h1 : (decide (0 ≤ x) && decide (x < (m : Int))) with
   | false =>
    rw [h1] at th
    simp_all! only [th, hol_some, Bool.false_eq_true, if_false]
   | true =>
    rw [h1] at th
    cases h2 : p.contains x with
    | true =>
     simp_all! only [th, told_has, h2, hol_some, Bool.false_eq_true, if_false]
    | false =>
     have hx : x ∉ p := fun z => by rw [List.contains_iff_mem.mpr z] at h2; cases h2
     simp_all! only [th, told_has, h2, told_put hx hp, hol_some, if_true]
     exact ⟨_, rfl, _, rfl⟩)
  rw [e]
  cases hk : tk m [] o with
  | true =>
   rw [hk, if_pos rfl] at q
   obtain ⟨s', p', rfl, o3, rfl⟩ := q
   simp_all! only [hol_some]
  | false =>
   rw [hk, if_neg Bool.false_ne_true] at q
   subst q
   simp_all! only [hol_some]
theorem tells_perm {m : Nat} {o : List Int} (h : o.Perm (rngI m)) : tellsB m o = true := by
 have hl : o.length = m := by have := h.length_eq; simpa [rngI] using this
 unfold tellsB
 rw [hl, decide_eq_true rfl, tk_good (fun x hx => rngI_mem (h.mem_iff.mp hx)) (h.nodup_iff.mpr rngI_nodup) fun _ _ z => by cases z]
 rfl
def ilD (L : List (List Int)) : D := .lst (L.map fun p => .lst (p.map .int))
def slD (L : List (List Int)) : D := .lst (L.map D.scr)
def toI (P : List (List Nat)) : List (List Int) := P.map fun p => p.map fun n => ((n : Nat) : Int)
theorem ll_il' {P : List (List Nat)} : llD P = ilD (toI P) := by
 unfold llD ilD toI
 rw [List.map_map]
 congr 1
 apply List.map_congr_left
 intro p _
 show D.lst (p.map nD) = D.lst ((p.map fun n => ((n : Nat) : Int)).map D.int)
 rw [List.map_map]
 rfl
def Sm (L : List (List Int)) : Prop := L.length ≤ 40 ∧ L.flatten.length ≤ 40
theorem fl_mem {L : List (List Int)} {p : List Int} (h : p ∈ L) : p.length ≤ L.flatten.length := by
 induction L with
 | nil => cases h
 | cons a r ih =>
  rw [List.flatten_cons, List.length_append]
  rcases List.mem_cons.mp h with z | z
  ·rw [z]; omega
  ·have := ih z
   omega
theorem fl_set : ∀ {L : List (List Int)} {k : Nat} {q : List Int}, (L.set k q).flatten.length ≤ L.flatten.length + q.length
 | [], _, _ => by simp
 | a :: r, 0, q => by
  rw [List.set_cons_zero, List.flatten_cons, List.flatten_cons, List.length_append, List.length_append]
  omega
 | a :: r, k + 1, q => by
  rw [List.set_cons_succ, List.flatten_cons, List.flatten_cons, List.length_append, List.length_append]
  have := fl_set (L := r) (k := k) (q := q)
  omega
theorem fl_sub {A B : List (List Int)} (h : A.Sublist B) : A.flatten.length ≤ B.flatten.length := by
 induction h with
 | slnil => exact Nat.le_refl _
 | cons a _ ih => rw [List.flatten_cons, List.length_append]; omega
 | cons_cons a _ ih => rw [List.flatten_cons, List.flatten_cons, List.length_append, List.length_append]; omega
theorem il_get {L : List (List Int)} {k : Nat} (h : k < L.length) : (L.map fun p => D.lst (p.map .int))[k]? = some (.lst (L[k].map .int)) := by rw [List.getElem?_map, List.getElem?_eq_getElem h]; rfl
theorem m1_il {M : List D → List D → Option (List D)} {L : List (List Int)} {k : Nat} {args : List D} {q : List Int} (h : k < L.length) (hM : M (L[k].map .int) args = some (q.map .int)) : m1V M (some (ilD L)) (some (.int (k : Int))) (some args) = some (ilD (L.set k q)) := by
 show ((ixN (L.map fun p => D.lst (p.map .int)).length (k : Int)).bind fun j => _) = _
 rw [ixN_of (by simpa using h), Option.bind_some, il_get h]
 show (if imms (L[k].map D.int) = true then (flatO (M (L[k].map .int) args)).map _ else none) = _
 rw [if_pos (imms_int _), hM, eo_flat (imms_int _)]
 show some (D.lst ((L.map fun p => D.lst (p.map .int)).set k (.lst (q.map .int)))) = _
 unfold ilD
 rw [List.map_set]
theorem st1_il {L : List (List Int)} {k j : Nat} {x : Int} (h : k < L.length) (hj : j < L[k].length) : st1V (some (ilD L)) (some (.int (k : Int))) (some (.int (j : Int))) (some (.int x)) = some (ilD (L.set k (L[k].set j x))) := by
 show ((ixN (L.map fun p => D.lst (p.map .int)).length (k : Int)).bind fun j => _) = _
 rw [ixN_of (by simpa using h), Option.bind_some, il_get h]
 show (if imms (L[k].map D.int) = true then (ixN (L[k].map D.int).length (j : Int)).map _ else none) = _
 rw [if_pos (imms_int _), ixN_of (by simpa using hj), Option.map_some]
 unfold ilD
 rw [List.map_set, List.map_set]
theorem pop_il {L : List (List Int)} {k : Nat} (h : k < L.length) (hl : L.length ≤ 1000) : m0V popF (some (ilD L)) (some [.int (k : Int)]) = some (ilD (L.eraseIdx k)) := by
 show (popF (L.map fun p => D.lst (p.map .int)) [.int (k : Int)]).map D.lst = _
 show ((ixN (L.map fun p => D.lst (p.map .int)).length (k : Int)).bind fun j => if (L.map fun p => D.lst (p.map .int)).length ≤ sizeLine then some ((L.map fun p => D.lst (p.map .int)).eraseIdx j) else none).map D.lst = _
 rw [ixN_of (by simpa using h), Option.bind_some, if_pos (small_line (by rw [List.length_map]; omega))]
 show some (D.lst ((L.map fun p => D.lst (p.map .int)).eraseIdx k)) = _
 rw [erase_map]
 rfl
theorem ins_il {L : List (List Int)} {k : Nat} (h : k ≤ L.length) (hl : L.length ≤ 1000) : m0V insF (some (ilD L)) (some [.int (k : Int), .lst []]) = some (ilD (L.take k ++ [] :: L.drop k)) := by
 show (insF (L.map fun p => D.lst (p.map .int)) [.int (k : Int), .lst []]).map D.lst = _
 have : insF (L.map fun p => D.lst (p.map .int)) [.int (k : Int), .lst []] = some ((L.map fun p => D.lst (p.map .int)).take (insK (L.map fun p => D.lst (p.map .int)).length (k : Int)) ++ .lst [] :: (L.map fun p => D.lst (p.map .int)).drop (insK (L.map fun p => D.lst (p.map .int)).length (k : Int))) := if_pos ⟨by rw [List.length_map, PySem.sizeLine_eq]; omega, by omega, by omega⟩
 rw [this, Option.map_some]
 have e : insK (L.map fun p => D.lst (p.map .int)).length (k : Int) = k := by
  rw [List.length_map]
  unfold insK
  split <;> omega
 rw [e]
 unfold ilD
 rw [List.map_append, List.map_cons, List.map_take, List.map_drop]
 rfl
theorem app_i {p : List Int} {x : Int} (h : p.length ≤ 1000) : appF (p.map .int) [.int x] = some ((p ++ [x]).map .int) := by
 rw [List.map_append]
 exact if_pos (by rw [List.length_map, PySem.sizeLine_eq]; omega)
theorem pop_i {p : List Int} {k : Nat} (hk : k < p.length) (h : p.length ≤ 1000) : popF (p.map .int) [.int (k : Int)] = some ((p.eraseIdx k).map .int) := by
 show ((ixN (p.map D.int).length (k : Int)).bind fun j => if (p.map D.int).length ≤ sizeLine then some ((p.map D.int).eraseIdx j) else none) = _
 rw [ixN_of (by simpa using hk), Option.bind_some, if_pos (small_line (by rw [List.length_map]; omega)), erase_map]
theorem ins_i {p : List Int} {k : Nat} {x : Int} (hk : k ≤ p.length) (h : p.length ≤ 1000) : insF (p.map .int) [.int (k : Int), .int x] = some ((p.take k ++ x :: p.drop k).map .int) := by
 have : insF (p.map .int) [.int (k : Int), .int x] = some ((p.map D.int).take (insK (p.map D.int).length (k : Int)) ++ .int x :: (p.map D.int).drop (insK (p.map D.int).length (k : Int))) := if_pos ⟨by rw [List.length_map, PySem.sizeLine_eq]; omega, by omega, by omega⟩
 have e : insK (p.map D.int).length (k : Int) = k := by
  rw [List.length_map]
  unfold insK
  split <;> omega
 rw [this, e, List.map_append, List.map_cons, List.map_take, List.map_drop]
theorem scrs_il : ∀ L : List (List Int), scrs (L.map fun p => D.lst (p.map .int)) = some (L.map D.scr)
 | [] => rfl
 | p :: r => by
  show (intsO (p.map D.int)).bind (fun ns => (scrs (r.map fun p => D.lst (p.map .int))).map (D.scr ns :: ·)) = _
  have e : intsO (p.map D.int) = some p := by
   induction p with
   | nil => rfl
   | cons a q ih =>
    show (intsO (q.map D.int)).map (a :: ·) = _
    rw [ih]
    rfl
  rw [e, Option.bind_some, scrs_il r]
  rfl
theorem sm_set {L : List (List Int)} {k : Nat} {q : List Int} (h : L.length ≤ 40 ∧ L.flatten.length ≤ 20) (hq : q.length ≤ 20) : Sm (L.set k q) := ⟨by rw [List.length_set]; exact h.1, by have := fl_set (L := L) (k := k) (q := q); omega⟩
theorem fl_app : ∀ {L : List (List Int)} {k : Nat} {y : Int} (h : k < L.length), (L.set k (L[k] ++ [y])).flatten.length = L.flatten.length + 1
 | [], _, _, h => by simp at h
 | a :: r, 0, y, _ => by
  show ((a ++ [y]) :: r).flatten.length = _
  rw [List.flatten_cons, List.flatten_cons, List.length_append, List.length_append, List.length_append]
  show a.length + 1 + _ = _
  omega
 | a :: r, k + 1, y, h => by
  show (a :: r.set k (r[k]'(by simpa using h) ++ [y])).flatten.length = _
  rw [List.flatten_cons, List.flatten_cons, List.length_append, List.length_append, fl_app (by simpa using h)]
  omega
theorem dv {c n : Int} (h0 : 0 < n) (h1 : n < 1073741824) : divI (.int c) (.int n) = some (.int (c / n)) := ea_div ⟨h0, h1⟩
theorem any_is (c : Int) (m : Nat) : hol (m__law_any [.int c, .int (m : Int)]) fun d => ∃ L, d = slD L ∧ Sm L := by
 refine hol_run rfl ?_
 obtain ⟨r, er, hr⟩ := mod_nat (x := c) (n := 5) (by omega)
 have mr : modI (.int c) (.int 5) = some (.int (r : Int)) := by rw [ea_mod (by omega)]; exact congrArg _ (congrArg _ er)
 obtain ⟨t, et, ht⟩ := mod_nat (x := c / 5) (n := 13) (by omega)
 have mt : modI (.int (c / 5)) (.int 13) = some (.int (t : Int)) := by rw [ea_mod (by omega)]; exact congrArg _ (congrArg _ et)
 have cx : ∀ a b : Option D, compX (some (rngL 0 r)) (compF dYes (mkFlat (dArgs [])) [some (.int c), some (.int (m : Int)), a, b]) = some ((List.replicate r ([] : List Int)).map fun p => .lst (p.map .int)) := fun a b => by
  rw [rng_nat, cx_all (fun _ => D.lst []) (by simp; omega) fun k _ => by simp! only [flat_nil]]
  congr 1
  apply List.ext_getElem <;> simp
 have li : D.lst ((List.replicate r ([] : List Int)).map fun p => .lst (p.map .int)) = ilD (List.replicate r []) := rfl
 simp! only [g__law_any, mr, rng1_nat (show r ≤ 1000000 by omega), cx, li, dv (c := c) (n := 5) (by omega) (by omega), mt, rng1_nat (show t ≤ 1000000 by omega)]
 refine hol_bindO (I := fun s => ∃ (c' : Int) (L : List (List Int)) (o3 : Option SD), s = [some (.sh (.int c')), some (.sh (.int (m : Int))), some (.ow (ilD L)), o3] ∧ Sm L) ?_ ?_
 ·refine for_rng (fun n s => ∃ (c' : Int) (L : List (List Int)) (o3 : Option SD), s = [some (.sh (.int c')), some (.sh (.int (m : Int))), some (.ow (ilD L)), o3] ∧ L.length = r ∧ L.flatten.length ≤ n) ⟨_, _, _, rfl, by simp, by simp⟩ ?_ ?_
  ·rintro n hn s ⟨c', L, o3, rfl, hl, hp⟩
   have lL : lenF [ilD L] = some (.int (L.length : Int)) := len_map
   simp! only [dv (c := c') (n := 17) (by omega) (by omega), lL]
   by_cases h : 0 < L.length
   ·have d0 : decide ((L.length : Int) > 0) = true := decide_eq_true (by omega)
    obtain ⟨k, ek, hk⟩ := mod_nat (x := c' / 17) (n := L.length) h
    have mk : modI (.int (c' / 17)) (.int (L.length : Int)) = some (.int (k : Int)) := by rw [ea_mod (by omega), ek]
    obtain ⟨y, hy⟩ : ∃ y : Int, modI (.int (c' / 17 / 5)) (.int ((m : Int) + 2)) = some (.int y) := ⟨_, ea_mod (by omega)⟩
    have hq := fl_mem (List.getElem_mem hk)
    have m1 := m1_il (M := appF) (L := L) (k := k) (args := [.int (y - 1)]) (q := L[k] ++ [y - 1]) hk (app_i (by omega))
    have im : immsO (some [.int (y - 1)]) = some [.int (y - 1)] := rfl
    simp_all! only [d0, mk, dv (c := c' / 17) (n := 5) (by omega) (by omega), hy, im, m1, dv (c := c' / 17) (n := 61) (by omega) (by omega), hol_some]
    refine ⟨_, _, _, rfl, by rw [List.length_set]; exact hl, ?_⟩
    rw [fl_app hk]
    omega
   ·have d0 : decide ((L.length : Int) > 0) = false := decide_eq_false (by omega)
    simp_all! only [d0, dv (c := c' / 17) (n := 61) (by omega) (by omega), hol_some]
    exact ⟨_, _, _, rfl, hl, by omega⟩
  ·rintro s ⟨c', L, o3, rfl, hl, hp⟩
   exact ⟨_, rfl, c', L, o3, rfl, by omega, by omega⟩
 ·rintro s ⟨c', L, o3, rfl, hS⟩
  have fr : fzsO 2 (retO 2) [some (.sh (.int c')), some (.sh (.int (m : Int))), some (.ow (ilD L)), o3] = some (.rt (slD L)) := by
   show ((scrs (L.map fun p => D.lst (p.map .int))).bind fun es => _) = _
   rw [scrs_il]
   cases o3 <;> first | rfl | (rename_i z; cases z <;> rfl)
  rw [fr, hol_some]
  exact ⟨_, rfl, L, rfl, hS⟩
theorem mod_n {c : Int} {n : Nat} (h : 0 < n) : ∃ k : Nat, modI (.int c) (.int (n : Int)) = some (.int (k : Int)) ∧ k < n := by
 obtain ⟨k, ek, hk⟩ := mod_nat (x := c) (n := n) h
 exact ⟨k, by rw [ea_mod (by omega), ek], hk⟩
theorem cut_tk {ds : List D} {k : Nat} (hk : k ≤ ds.length) : cut3 (some (.lst ds)) (some none) (some (some (k : Int))) = some (ds.take k) := by
 show some (cutL ds none (some (k : Int))) = _
 unfold cutL
 have e1 : HT.sIx ds.length 0 none = 0 := rfl
 have e2 : HT.sIx ds.length ds.length (some (k : Int)) = k := by
  show (if (k : Int) < 0 then ((k : Int) + (ds.length : Int)).toNat else min (k : Int).toNat ds.length) = k
  rw [if_neg (by omega)]
  omega
 rw [e1, e2, List.drop_zero, Nat.sub_zero]
theorem cut_dr {ds : List D} {k : Nat} (hk : k ≤ ds.length) : cut3 (some (.lst ds)) (some (some (k : Int))) (some none) = some (ds.drop k) := by
 show some (cutL ds (some (k : Int)) none) = _
 unfold cutL
 have e1 : HT.sIx ds.length 0 (some (k : Int)) = k := by
  show (if (k : Int) < 0 then ((k : Int) + (ds.length : Int)).toNat else min (k : Int).toNat ds.length) = k
  rw [if_neg (by omega)]
  omega
 have e2 : HT.sIx ds.length ds.length none = ds.length := rfl
 rw [e1, e2]
 exact congrArg some (List.take_of_length_le (by simp))
theorem imms_scr : ∀ Y : List (List Int), imms (Y.map D.scr) = true
 | [] => rfl
 | _ :: r => by
  show (true && imms (r.map D.scr)) = true
  rw [imms_scr r]
  rfl
theorem scrs_sl : ∀ Y : List (List Int), scrs (Y.map D.scr) = some (Y.map D.scr)
 | [] => rfl
 | y :: r => by
  show (if (D.scr y).imm = true then (scrs (r.map D.scr)).map (D.scr y :: ·) else none) = _
  rw [scrs_sl r]
  rfl
theorem spoiled_is {P : List (List Nat)} (n0 : 0 < P.length) (n8 : P.length ≤ 8) (hp : ∀ p ∈ P, p ≠ [] ∧ p.length ≤ 8) (hfl : P.flatten.length ≤ 8) (c : Int) (m : Nat) : hol (m__law_spoiled [llD P, .int c, .int (m : Int)]) fun d => ∃ L, d = slD L ∧ Sm L := by
 refine hol_run rfl ?_
 obtain ⟨f, ef, hf⟩ := mod_nat (x := c) (n := 12) (by omega)
 have mf : modI (.int c) (.int 12) = some (.int (f : Int)) := by rw [ea_mod (by omega)]; exact congrArg _ (congrArg _ ef)
 have lP : lenF [llD P] = some (.int (P.length : Int)) := len_map
 obtain ⟨a, ma, ha⟩ := mod_n (c := c / 11) n0
 obtain ⟨p, hpp⟩ : ∃ p, p = P[a] := ⟨_, rfl⟩
 obtain ⟨p0, p8⟩ := hp p (by rw [hpp]; exact List.getElem_mem ha)
 have pl : 0 < p.length := List.length_pos_iff.mpr p0
 have ixa : ixD (llD P) (.int (a : Int)) = some (thD p) := by
  rw [hpp]
  exact ix_nat (by rw [List.getElem?_map, List.getElem?_eq_getElem ha]; rfl)
 obtain ⟨j, mj, hj⟩ := mod_n (c := c / 88) pl
 obtain ⟨o, mo, ho⟩ := mod_n (c := c / 704) n0
 obtain ⟨q, hqq⟩ : ∃ q, q = P[o] := ⟨_, rfl⟩
 obtain ⟨q0, q8⟩ := hp q (by rw [hqq]; exact List.getElem_mem ho)
 have ixo : ixD (llD P) (.int (o : Int)) = some (thD q) := by
  rw [hqq]
  exact ix_nat (by rw [List.getElem?_map, List.getElem?_eq_getElem ho]; rfl)
 have ixj : ixD (thD p) (.int (j : Int)) = some (.int ((p[j] : Nat) : Int)) := ix_nat (by rw [List.getElem?_map, List.getElem?_eq_getElem hj]; rfl)
 obtain ⟨x, hx⟩ : ∃ x : Int, x = ((p[j] : Nat) : Int) := ⟨_, rfl⟩
 rw [← hx] at ixj
 have cp : ∀ d1 d2 d3 d4 d5 d6 d7 d8 d9 : Option D, compX (some (P.map thD)) (compF dYes (mkFlat (dCallL listF [dVar 10])) [some (llD P), d1, d2, d3, d4, d5, d6, d7, d8, d9]) = some (P.map thD) := fun d1 d2 d3 d4 d5 d6 d7 d8 d9 => by
  refine cx_all (enc := thD) (xs := P) thD (by omega) fun p _ => ?_
  have lp : listF [thD p] = some (p.map nD) := rfl
  simp! only [lp, flat_th, th_lst]
 have sP : seqD (llD P) = some (P.map thD) := rfl
 have ll : D.lst (P.map thD) = ilD (toI P) := ll_il'
 obtain ⟨X, hX⟩ : ∃ X, X = toI P := ⟨_, rfl⟩
 have Xl : X.length = P.length := by rw [hX]; simp [toI]
 have Xa : X[a]'(by omega) = p.map fun n => ((n : Nat) : Int) := by simp only [hX, toI, List.getElem_map, hpp]
 have Xo : X[o]'(by omega) = q.map fun n => ((n : Nat) : Int) := by simp only [hX, toI, List.getElem_map, hqq]
 have X8 : X.flatten.length ≤ 8 := by
  rw [hX]
  unfold toI
  have e : (P.map fun p => p.map fun n => ((n : Nat) : Int)).flatten = P.flatten.map fun n => ((n : Nat) : Int) := by rw [List.map_flatten]
  rw [e, List.length_map]
  exact hfl
 have X2 : X.length ≤ 40 ∧ X.flatten.length ≤ 20 := ⟨by omega, by omega⟩
 have XS : Sm X := ⟨by omega, by omega⟩
 rw [← hX] at ll
 have ps : ((p.map fun n => ((n : Nat) : Int))).length = p.length := List.length_map ..
 have qs : ((q.map fun n => ((n : Nat) : Int))).length = q.length := List.length_map ..
 have v11 := dv (c := c) (n := 11) (by omega) (by omega)
 have v88 := dv (c := c) (n := 88) (by omega) (by omega)
 have v704 := dv (c := c) (n := 704) (by omega) (by omega)
 have v12 := dv (c := c) (n := 12) (by omega) (by omega)
 have v5632 := dv (c := c) (n := 5632) (by omega) (by omega)
 have fin : ∀ (L : List (List Int)) (o9 : Option SD), Sm L → hol (fzsO 8 (retO 8) [some (.sh (llD P)), some (.sh (.int c)), some (.sh (.int (m : Int))), some (.sh (.int (f : Int))), some (.sh (.int (a : Int))), some (.sh (thD p)), some (.sh (.int (j : Int))), some (.sh (.int (o : Int))), some (.ow (ilD L)), o9]) fun o => ∃ d, o = .rt d ∧ ∃ L, d = slD L ∧ Sm L := fun L o9 hS => by
  have fr : fzsO 8 (retO 8) [some (.sh (llD P)), some (.sh (.int c)), some (.sh (.int (m : Int))), some (.sh (.int (f : Int))), some (.sh (.int (a : Int))), some (.sh (thD p)), some (.sh (.int (j : Int))), some (.sh (.int (o : Int))), some (.ow (ilD L)), o9] = some (.rt (slD L)) := by
   show ((scrs (L.map fun p => D.lst (p.map .int))).bind fun es => _) = _
   rw [scrs_il]
   cases o9 <;> first | rfl | (rename_i z; cases z <;> rfl)
  rw [fr, hol_some]
  exact ⟨_, rfl, L, rfl, hS⟩
 have f12 : f = 0 ∨ f = 1 ∨ f = 2 ∨ f = 3 ∨ f = 4 ∨ f = 5 ∨ f = 6 ∨ f = 7 ∨ f = 8 ∨ f = 9 ∨ f = 10 ∨ f = 11 := by omega
 rcases f12 with rfl | rfl | rfl | rfl | rfl | rfl | rfl | rfl | rfl | rfl | rfl | rfl
 ·have e : ((0 : Nat) : Int) = 0 := rfl
  rw [e] at mf fin
  simp_all! only [g__law_spoiled, mf, v11, lP, ma, ixa, v88, len_th, mj, v704, mo, sP, cp, ll]
  exact fin X none XS
 ·have e : ((1 : Nat) : Int) = 1 := rfl
  rw [e] at mf fin
  have im : immsO (some [.int (j : Int)]) = some [.int (j : Int)] := rfl
  have m1 := m1_il (M := popF) (L := X) (k := a) (args := [.int (j : Int)]) (by omega) (by rw [Xa]; exact pop_i (by omega) (by omega))
  simp_all! only [g__law_spoiled, mf, v11, lP, ma, ixa, v88, len_th, mj, v704, mo, sP, cp, ll, im, m1]
  exact fin _ none (sm_set X2 (by have := List.length_eraseIdx_le (p.map fun n => ((n : Nat) : Int)) j; omega))
 ·have e : ((2 : Nat) : Int) = 2 := rfl
  rw [e] at mf fin
  obtain ⟨u, mu, hu⟩ := mod_n (c := c / 704) (n := p.length + 1) (by omega)
  have mu : modI (.int (c / 704)) (.int ((p.length : Int) + 1)) = some (.int (u : Int)) := mu
  have im : immsO (some [.int (u : Int), .int x]) = some [.int (u : Int), .int x] := rfl
  have m1 := m1_il (M := insF) (L := X) (k := a) (args := [.int (u : Int), .int x]) (by omega) (by rw [Xa]; exact ins_i (by omega) (by omega))
  simp_all! only [g__law_spoiled, mf, v11, lP, ma, ixa, v88, len_th, mj, v704, mo, sP, cp, ll, mu, ixj, im, m1]
  exact fin _ none (sm_set X2 (by simp; omega))
 ·have e : ((3 : Nat) : Int) = 3 := rfl
  rw [e] at mf fin
  have im : immsO (some [.int x]) = some [.int x] := rfl
  have m1 := m1_il (M := appF) (L := X) (k := o) (args := [.int x]) (by omega) (by rw [Xo]; exact app_i (by omega))
  simp_all! only [g__law_spoiled, mf, v11, lP, ma, ixa, v88, len_th, mj, v704, mo, sP, cp, ll, ixj, im, m1]
  exact fin _ none (sm_set X2 (by simp; omega))
 ·have e : ((4 : Nat) : Int) = 4 := rfl
  rw [e] at mf fin
  have s1 := st1_il (L := X) (k := a) (j := j) (x := -1 - x) (by omega) (by rw [Xa]; omega)
  rw [Xa] at s1
  simp_all! only [g__law_spoiled, mf, v11, lP, ma, ixa, v88, len_th, mj, v704, mo, sP, cp, ll, ixj, s1]
  exact fin _ none (sm_set X2 (by simp; omega))
 ·have e : ((5 : Nat) : Int) = 5 := rfl
  rw [e] at mf fin
  obtain ⟨u, mu, hu⟩ := mod_n (c := c / 704) (n := 3) (by omega)
  have mu : modI (.int (c / 704)) (.int 3) = some (.int (u : Int)) := mu
  have im : immsO (some [.int ((m : Int) + (u : Int))]) = some [.int ((m : Int) + (u : Int))] := rfl
  have m1 := m1_il (M := appF) (L := X) (k := a) (args := [.int ((m : Int) + (u : Int))]) (by omega) (by rw [Xa]; exact app_i (by omega))
  simp_all! only [g__law_spoiled, mf, v11, lP, ma, ixa, v88, len_th, mj, v704, mo, sP, cp, ll, mu, im, m1]
  exact fin _ none (sm_set X2 (by simp; omega))
 ·have e : ((6 : Nat) : Int) = 6 := rfl
  rw [e] at mf fin
  obtain ⟨u, mu, hu⟩ := mod_n (c := c / 704) (n := P.length + 1) (by omega)
  have mu : modI (.int (c / 704)) (.int ((P.length : Int) + 1)) = some (.int (u : Int)) := mu
  have m1 := ins_il (L := X) (k := u) (by omega) (by omega)
  simp_all! only [g__law_spoiled, mf, v11, lP, ma, ixa, v88, len_th, mj, v704, mo, sP, cp, ll, mu, flat_nil, m1]
  refine fin _ none ⟨by simp; omega, ?_⟩
  have e3 : (X.take u ++ [] :: X.drop u).flatten = X.flatten := by rw [List.flatten_append, List.flatten_cons, List.nil_append, ← List.flatten_append, List.take_append_drop]
  rw [e3]
  omega
 ·have e : ((7 : Nat) : Int) = 7 := rfl
  rw [e] at mf fin
  have im : immsO (some [.int (a : Int)]) = some [.int (a : Int)] := rfl
  have m1 := pop_il (L := X) (k := a) (by omega) (by omega)
  simp_all! only [g__law_spoiled, mf, v11, lP, ma, ixa, v88, len_th, mj, v704, mo, sP, cp, ll, im, m1]
  exact fin _ none ⟨by have := List.length_eraseIdx_le X a; omega, by have := fl_sub (List.eraseIdx_sublist X a); omega⟩
 ·have e : ((8 : Nat) : Int) = 8 := rfl
  rw [e] at mf fin
  by_cases hao : o = a
  ·have d1 : decide ((o : Int) = (a : Int)) = true := decide_eq_true (by omega)
   simp_all! only [g__law_spoiled, mf, v11, lP, ma, ixa, v88, len_th, mj, v704, mo, sP, cp, ll, d1]
   exact fin X none XS
  ·have d1 : decide ((o : Int) = (a : Int)) = false := decide_eq_false (by omega)
   have ct := cat_th (a := p) (b := q) (by omega)
   have s1 : st0NV (some (ilD X)) (some (.int (a : Int))) (some (thD (p ++ q))) = some (ilD (X.set a ((p ++ q).map fun n => ((n : Nat) : Int)))) := by
    show (ixN (X.map fun p => D.lst (p.map .int)).length (a : Int)).map (fun j => D.lst ((X.map fun p => D.lst (p.map .int)).set j (thD (p ++ q)))) = _
    rw [ixN_of (by rw [List.length_map]; omega), Option.map_some]
    unfold ilD
    rw [List.map_set]
    congr 3
    show D.lst ((p ++ q).map nD) = D.lst (((p ++ q).map fun n => ((n : Nat) : Int)).map D.int)
    rw [List.map_map]
    rfl
   obtain ⟨Y, hY⟩ : ∃ Y, Y = X.set a ((p ++ q).map fun n => ((n : Nat) : Int)) := ⟨_, rfl⟩
   rw [← hY] at s1
   have YS : Sm Y := by rw [hY]; exact sm_set X2 (by simp; omega)
   have Yf := YS.2
   have Yl : Y.length = X.length := by rw [hY, List.length_set]
   have im : immsO (some [.int (o : Int)]) = some [.int (o : Int)] := rfl
   have m1 := pop_il (L := Y) (k := o) (by omega) (by omega)
   simp_all! only [g__law_spoiled, mf, v11, lP, ma, ixa, v88, len_th, mj, v704, mo, sP, cp, ll, d1, ixo, ct, flat_th, th_lst, s1, im, m1]
   exact fin _ none ⟨by have := List.length_eraseIdx_le Y o; omega, by have := fl_sub (List.eraseIdx_sublist Y o); omega⟩
 ·have e : ((9 : Nat) : Int) = 9 := rfl
  rw [e] at mf fin
  have fz : ∀ g, fzsO 8 g [some (.sh (llD P)), some (.sh (.int c)), some (.sh (.int (m : Int))), some (.sh (.int 9)), some (.sh (.int (a : Int))), some (.sh (thD p)), some (.sh (.int (j : Int))), some (.sh (.int (o : Int))), some (.ow (ilD X)), none] = g [some (.sh (llD P)), some (.sh (.int c)), some (.sh (.int (m : Int))), some (.sh (.int 9)), some (.sh (.int (a : Int))), some (.sh (thD p)), some (.sh (.int (j : Int))), some (.sh (.int (o : Int))), some (.ow (slD X)), none] := fun g => by
   show ((scrs (X.map fun p => D.lst (p.map .int))).bind fun es => _) = _
   rw [scrs_il]
   rfl
  have k1 : cut3 (some (slD X)) (some none) (some (some (a : Int))) = some ((X.take a).map D.scr) := by
   rw [List.map_take]
   exact cut_tk (by rw [List.length_map]; omega)
  have k2 : cut3 (some (slD X)) (some (some ((a : Int) + 1))) (some none) = some ((X.drop (a + 1)).map D.scr) := by
   rw [List.map_drop]
   exact cut_dr (k := a + 1) (by rw [List.length_map]; omega)
  have fl : ∀ Y : List (List Int), flatO (some (Y.map D.scr)) = some (Y.map D.scr) := fun Y => eo_flat (imms_scr Y)
  have p1 : cut3 (some (thD p)) (some none) (some (some ((j : Int) + 1))) = some ((p.take (j + 1)).map nD) := by
   rw [List.map_take]
   exact cut_tk (k := j + 1) (by rw [List.length_map]; omega)
  have p2 := cut_drop (o := p) (k := j)
  have c1 : catO (some (slD (X.take a))) (some (.lst [sD (p.take (j + 1)), sD (p.drop (j + 1))])) = some ((X.take a).map D.scr ++ [sD (p.take (j + 1)), sD (p.drop (j + 1))]) := eo_cat (by simp; omega)
  obtain ⟨E, hE⟩ : ∃ E, E = (X.take a).map D.scr ++ [sD (p.take (j + 1)), sD (p.drop (j + 1))] := ⟨_, rfl⟩
  rw [← hE] at c1
  have c2 : catO (some (.lst E)) (some (slD (X.drop (a + 1)))) = some ((X.take a ++ [(p.take (j + 1)).map fun n => ((n : Nat) : Int), (p.drop (j + 1)).map fun n => ((n : Nat) : Int)] ++ X.drop (a + 1)).map D.scr) := by
   refine (eo_cat (ds := E) (es := (X.drop (a + 1)).map D.scr) (by rw [hE]; simp; omega)).trans ?_
   rw [hE, List.map_append, List.map_append]
   rfl
  have lm : ∀ Y : List (List Int), D.lst (Y.map D.scr) = slD Y := fun _ => rfl
  obtain ⟨Z, hZ⟩ : ∃ Z, Z = X.take a ++ [(p.take (j + 1)).map fun n => ((n : Nat) : Int), (p.drop (j + 1)).map fun n => ((n : Nat) : Int)] ++ X.drop (a + 1) := ⟨_, rfl⟩
  rw [← hZ] at c2
  have ZS : Sm Z := by
   rw [hZ]
   refine ⟨by simp; omega, ?_⟩
   rw [List.flatten_append, List.flatten_append, List.length_append, List.length_append]
   have t1 := fl_sub (List.take_sublist a X)
   have t2 := fl_sub (List.drop_sublist (a + 1) X)
   have t3 : ([(p.take (j + 1)).map fun n => ((n : Nat) : Int), (p.drop (j + 1)).map fun n => ((n : Nat) : Int)] : List (List Int)).flatten.length ≤ 16 := by simp; omega
   omega
  have fr : fzsO 8 (retO 8) [some (.sh (llD P)), some (.sh (.int c)), some (.sh (.int (m : Int))), some (.sh (.int 9)), some (.sh (.int (a : Int))), some (.sh (thD p)), some (.sh (.int (j : Int))), some (.sh (.int (o : Int))), some (.ow (slD Z)), none] = some (.rt (slD Z)) := by
   show ((scrs (Z.map D.scr)).bind fun es => _) = _
   rw [scrs_sl]
   rfl
  simp_all! only [g__law_spoiled, mf, v11, lP, ma, ixa, v88, len_th, mj, v704, mo, sP, cp, ll, fz, k1, fl, lm, p1, flat_th, th_lst, ev_fz, fz_th, p2, c1, k2, c2, fr, hol_some]
  exact ⟨_, rfl, Z, rfl, ZS⟩
 ·have e : ((10 : Nat) : Int) = 10 := rfl
  rw [e] at mf fin
  have ql : 0 < q.length := List.length_pos_iff.mpr q0
  obtain ⟨i, mi, hi⟩ := mod_n (c := c / 5632) ql
  have ixi : ixD (thD q) (.int (i : Int)) = some (.int ((q[i] : Nat) : Int)) := ix_nat (by rw [List.getElem?_map, List.getElem?_eq_getElem hi]; rfl)
  obtain ⟨y, hy⟩ : ∃ y : Int, y = ((q[i] : Nat) : Int) := ⟨_, rfl⟩
  rw [← hy] at ixi
  have s1 := st1_il (L := X) (k := a) (j := j) (x := y) (by omega) (by rw [Xa]; omega)
  obtain ⟨Y, hY⟩ : ∃ Y, Y = X.set a ((X[a]'(by omega)).set j y) := ⟨_, rfl⟩
  rw [← hY] at s1
  have Y2 : Y.length ≤ 40 ∧ Y.flatten.length ≤ 20 := ⟨by rw [hY, List.length_set]; omega, by rw [hY]; have := fl_set (L := X) (k := a) (q := (X[a]'(by omega)).set j y); have hq : ((X[a]'(by omega)).set j y).length ≤ 8 := (by rw [List.length_set, Xa]; omega); omega⟩
  have Yl : Y.length = X.length := by rw [hY, List.length_set]
  have Yo : (Y[o]'(by omega)).length = q.length := by
   have : (Y[o]'(by omega)).length = (X[o]'(by omega)).length := by
    simp only [hY, List.getElem_set]
    split
    ·rename_i z
     subst z
     rw [List.length_set]
    ·rfl
   rw [this, Xo, qs]
  have s2 := st1_il (L := Y) (k := o) (j := i) (x := x) (by omega) (by omega)
  simp_all! only [g__law_spoiled, mf, v11, lP, ma, ixa, v88, len_th, mj, v704, mo, sP, cp, ll, v5632, ixo, mi, ixi, s1, ixj, s2]
  exact fin _ _ (sm_set Y2 (by rw [List.length_set]; omega))
 ·have e : ((11 : Nat) : Int) = 11 := rfl
  rw [e] at mf fin
  obtain ⟨_, ea, L, rfl, hS⟩ := any_is (c / 12) m
  simp_all! only [g__law_spoiled, mf, v12, ea, hol_some]
  exact ⟨_, rfl, L, rfl, hS⟩
def neP (p : List Int) : Bool := !p.isEmpty
def okB (m : Nat) (L : List (List Int)) : Bool := L.all neP && tellsB m L.flatten
theorem neP_t {p : List Int} (h : neP p = true) : p ≠ [] := fun z => by rw [z] at h; cases h
theorem neP_len {p : List Int} (h : neP p = true) : decide ((p.length : Int) = 0) = false := decide_eq_false fun z => neP_t h (List.length_eq_zero_iff.mp (by omega))
theorem neP_f {p : List Int} (h : neP p = false) : p = [] := by
 cases p with
 | nil => rfl
 | cons a r => cases h
theorem tells_lt {m : Nat} {o : List Int} (h : tellsB m o = true) : o.length = m ∧ (∀ x ∈ o, 0 ≤ x ∧ x < (m : Int)) ∧ o.Nodup := by
 have h := Bool.and_eq_true_iff.mp h
 have a := tk_true h.2
 exact ⟨by have := of_decide_eq_true h.1; omega, a.1, a.2.1⟩
structure Ok (m : Nat) (P : List (List Nat)) : Prop where
 ne : ∀ p ∈ P, p ≠ []
 pm : P.flatten.Perm (List.range m)
theorem ok_nat {m : Nat} {L : List (List Int)} (h : okB m L = true) : ∃ P, L = toI P ∧ Ok m P := by
 have h := Bool.and_eq_true_iff.mp h
 obtain ⟨hl, lt, nd⟩ := tells_lt h.2
 obtain ⟨P, hP⟩ : ∃ P : List (List Nat), P = L.map fun p => p.map Int.toNat := ⟨_, rfl⟩
 have e : L = toI P := by
  rw [hP]
  unfold toI
  rw [List.map_map]
  refine (List.map_id L).symm.trans (List.map_congr_left fun p hp => ?_)
  show p = (p.map Int.toNat).map fun n => ((n : Nat) : Int)
  rw [List.map_map]
  refine (List.map_id p).symm.trans (List.map_congr_left fun x hx => ?_)
  have := (lt x (List.mem_flatten.mpr ⟨p, hp, hx⟩)).1
  show x = ((x.toNat : Nat) : Int)
  omega
 have ef : L.flatten = P.flatten.map fun n => ((n : Nat) : Int) := by
  rw [e]
  unfold toI
  rw [List.map_flatten]
 refine ⟨P, e, fun p hp z => ?_, ?_⟩
 ·have : (p.map fun n => ((n : Nat) : Int)) ∈ L := by rw [e]; exact List.mem_map.mpr ⟨p, hp, rfl⟩
  have := neP_t (List.all_eq_true.mp h.1 _ this)
  rw [z] at this
  exact this rfl
 ·rw [ef] at hl nd lt
  rw [List.length_map] at hl
  have nd' : P.flatten.Nodup := List.Pairwise.of_map (fun n => ((n : Nat) : Int)) (fun a b hab => fun z => hab (by rw [z])) nd
  have lt' : ∀ x ∈ P.flatten, x < m := fun x hx => by
   have := (lt _ (List.mem_map.mpr ⟨x, hx, rfl⟩)).2
   omega
  refine (List.perm_ext_iff_of_nodup nd' List.nodup_range).mpr fun x => ⟨fun hx => List.mem_range.mpr (lt' x hx), fun hx => ?_⟩
  have hx := List.mem_range.mp hx
  by_cases hm : x ∈ P.flatten
  ·exact hm
  ·have nd2 : (x :: P.flatten).Nodup := List.nodup_cons.mpr ⟨hm, nd'⟩
   have : (x :: P.flatten).length ≤ (List.range m).length := List.Nodup.length_le_of_subset nd2 fun y hy => by
    rcases List.mem_cons.mp hy with z | z
    ·rw [z]; exact List.mem_range.mpr hx
    ·exact List.mem_range.mpr (lt' y z)
   rw [List.length_cons, List.length_range] at this
   omega
theorem Ok.lt {m : Nat} {P : List (List Nat)} (K : Ok m P) {p : List Nat} (hp : p ∈ P) : ∀ x ∈ p, x < m := fun x hx => List.mem_range.mp (K.pm.mem_iff.mp (List.mem_flatten.mpr ⟨p, hp, hx⟩))
theorem flat_mem {P : List (List Nat)} {p : List Nat} (h : p ∈ P) : p.length ≤ P.flatten.length := by
 induction P with
 | nil => cases h
 | cons a r ih =>
  rw [List.flatten_cons, List.length_append]
  rcases List.mem_cons.mp h with z | z
  ·rw [z]; omega
  ·have := ih z
   omega
theorem Ok.fl {m : Nat} {P : List (List Nat)} (K : Ok m P) : P.flatten.length = m := K.pm.length_eq.trans List.length_range
theorem Ok.pl {m : Nat} {P : List (List Nat)} (K : Ok m P) {p : List Nat} (hp : p ∈ P) : p.length ≤ m := by
 have := flat_mem hp
 have := K.fl
 omega
theorem Ok.len {m : Nat} {P : List (List Nat)} (K : Ok m P) : P.length ≤ m := by
 have h : ∀ M : List (List Nat), (∀ p ∈ M, p ≠ []) → M.length ≤ M.flatten.length := fun M => by
  induction M with
  | nil => exact fun _ => Nat.le_refl _
  | cons p M ih =>
   intro hne
   have := ih fun q hq => hne q (List.mem_cons_of_mem _ hq)
   have : 0 < p.length := List.length_pos_iff.mpr (hne p List.mem_cons_self)
   rw [List.flatten_cons, List.length_append, List.length_cons]
   omega
 have := h P K.ne
 have := K.fl
 omega
def pD (p : List Int) : D := .lst (p.map .int)
theorem il_pD {L : List (List Int)} : seqD (ilD L) = some (L.map pD) := (rfl)
theorem len_pD {p : List Int} : lenF [pD p] = some (.int (p.length : Int)) := len_il
theorem fl_pre {L pre post : List (List Int)} {p : List Int} (e : L = pre ++ p :: post) : pre.flatten.length + p.length ≤ L.flatten.length := by
 rw [e, List.flatten_append, List.flatten_cons, List.length_append, List.length_append]
 omega
theorem st_intI {o : List Int} {m : Nat} {t x : Int} (hl : o.length = m) (h0 : 0 ≤ t) (h : t < (m : Int)) : ∃ o' : List Int, o'.length = m ∧ st0V (some (inD' o)) (some (.int t)) (some (.int x)) = some (inD' o') := by
 obtain ⟨k, hk⟩ : ∃ k : Nat, t = (k : Int) := ⟨t.toNat, by omega⟩
 subst hk
 refine ⟨o.set k x, by rw [List.length_set]; exact hl, ?_⟩
 show (ixN (o.map D.int).length (k : Int)).map (fun j => D.lst ((o.map D.int).set j (.int x))) = _
 rw [ixN_of (by simp; omega), Option.map_some, ← List.map_set]
 rfl
theorem places_is {L : List (List Int)} (hS : Sm L) {m : Nat} (hm : m ≤ 8) : hol (m_places_of [ilD L, .int (m : Int)]) fun d => if okB m L = true then ∃ x, d = .val x else d = .exc 3 := by
 have key : hol (g_places_of ([ilD L, .int (m : Int)].map (fun d => some (.sh d)) ++ List.replicate 5 none)) fun o => if okB m L = true then ∃ x, o = .rt x else ∃ s, o = .ex 3 s := by
  simp! only [g_places_of, flat_nil, il_pD]
  have step : ∀ pre p post, L = pre ++ p :: post → ∀ o3 : Option SD, neP p = true → extDV (some (pD pre.flatten)) (some (pD p)) = some (pD (pre.flatten ++ p)) := fun pre p post e o3 _ => by
   have := fl_pre e
   have := hS.2
   show extDV (some (.lst (pre.flatten.map .int))) (some (.lst (p.map .int))) = _
   rw [eo_extD (imms_int _) (by rw [List.length_map, List.length_map]; omega), ← List.map_append]
   rfl
  cases ha : L.all neP with
  | false =>
   have hk : okB m L = false := by unfold okB; rw [ha]; rfl
   rw [hk]
   have lp : hol (forD 3 (seqO (ifO (dTest (d2 eqD (dCall lenF [(dVar 3)]) (dC (.int 0)))) (raiseO 3 (dC (.str "a piece is empty"))) skipO) (ext0D 2 (dVar 3))) (L.map pD) [some (.sh (ilD L)), some (.sh (.int (m : Int))), some (.ow (pD [])), none, none, none, none]) fun o => ∃ s, o = .ex 3 s := by
    refine for_map (enc := pD) (xs := L) (fun pre s => pre.all neP = true ∧ ∃ o3, s = [some (.sh (ilD L)), some (.sh (.int (m : Int))), some (.ow (pD pre.flatten)), o3, none, none, none]) ⟨rfl, _, rfl⟩ ?_ ?_
    ·rintro pre p post e s ⟨hpre, o3, rfl⟩
     cases hp : neP p with
     | true =>
      have ex := step pre p post e o3 hp
      have ef : (pre ++ [p]).flatten = pre.flatten ++ p := by simp
      rw [ef]
      obtain ⟨W, hW⟩ : ∃ W, W = pre.flatten ++ p := ⟨_, rfl⟩
      rw [← hW] at ex ⊢
      simp_all! only [len_pD, neP_len hp, ex, hol_some]
      exact ⟨by rw [List.all_append, hpre]; simp [hp], _, rfl⟩
     | false =>
      have z := neP_f hp
      subst z
      have l0 : lenF [pD []] = some (.int 0) := rfl
      simp_all! only [l0, hol_some]
      exact ⟨_, rfl⟩
    ·rintro s ⟨h, _⟩
     rw [h] at ha
     cases ha
   obtain ⟨o, e, s, rfl⟩ := lp
   have e' : forD 3 (seqO (ifO (dTest (d2 eqD (dCall lenF [(dVar 3)]) (dC (.int 0)))) (raiseO 3 (dC (.str "a piece is empty"))) skipO) (ext0D 2 (dVar 3))) (L.map pD) [some (.sh (ilD L)), some (.sh (.int (m : Int))), some (.ow (.lst [])), none, none, none, none] = some (.ex 3 s) := e
   simp! only [e', hol_some]
   exact ⟨_, rfl⟩
  | true =>
   have hk : okB m L = tellsB m L.flatten := by unfold okB; rw [ha]; rfl
   rw [hk]
   refine hol_bindO (I := fun s => ∃ o3, s = [some (.sh (ilD L)), some (.sh (.int (m : Int))), some (.ow (pD L.flatten)), o3, none, none, none]) (for_map (enc := pD) (xs := L) (fun pre s => ∃ o3, s = [some (.sh (ilD L)), some (.sh (.int (m : Int))), some (.ow (pD pre.flatten)), o3, none, none, none]) ⟨_, rfl⟩ ?_ fun s z => ⟨s, rfl, z⟩) ?_
   ·rintro pre p post e s ⟨o3, rfl⟩
    have hp : neP p = true := List.all_eq_true.mp ha p (by rw [e]; simp)
    have ex := step pre p post e o3 hp
    have ef : (pre ++ [p]).flatten = pre.flatten ++ p := by simp
    rw [ef]
    obtain ⟨W, hW⟩ : ∃ W, W = pre.flatten ++ p := ⟨_, rfl⟩
    rw [← hW] at ex ⊢
    simp_all! only [len_pD, neP_len hp, ex, hol_some]
    exact ⟨_, rfl⟩
   ·rintro s ⟨o3, rfl⟩
    have te : m_tells_each_once [pD L.flatten, .int (m : Int)] = some (.bl (tellsB m L.flatten)) := tells_list (by have := hS.2; omega)
    cases ht : tellsB m L.flatten with
    | false =>
     rw [ht] at te
     simp_all! only [te, hol_some]
     exact ⟨_, rfl⟩
    | true =>
     rw [ht] at te
     obtain ⟨_, lt, _⟩ := tells_lt ht
     have rp : repO (some (.lst [.int 0])) (some (.int (m : Int))) = some ((List.replicate m (0 : Int)).map .int) := by rw [eo_repN (by omega), List.map_replicate]
     have fl : flatO (some ((List.replicate m (0 : Int)).map D.int)) = some ((List.replicate m (0 : Int)).map D.int) := eo_flat (imms_int _)
     have li : D.lst ((List.replicate m (0 : Int)).map .int) = inD' (List.replicate m 0) := rfl
     have en : enumS (ilD L) = some (enumFrom 0 (L.map pD)) := rfl
     simp_all! only [te, rp, fl, li, en]
     refine hol_bindO (I := fun s => ∃ (xs : List Int) (o2 o3 o5 o6 : Option SD), s = [some (.sh (ilD L)), some (.sh (.int (m : Int))), o2, o3, some (.ow (inD' xs)), o5, o6] ∧ xs.length = m) ?_ ?_
     ·refine for_enum (enc := pD) (xs := L) (fun p s => ∃ (xs : List Int) (o2 o3 o5 o6 : Option SD), s = [some (.sh (ilD L)), some (.sh (.int (m : Int))), o2, o3, some (.ow (inD' xs)), o5, o6] ∧ xs.length = m) ?_ (fun s z => ⟨s, rfl, z⟩) (pre := []) rfl ⟨_, _, _, _, _, rfl, by simp⟩
      rintro pre p post e s ⟨xs, o2, o3, o5, o6, rfl, hx⟩
      have hp : p ∈ L := by rw [← List.nil_append L, e]; simp
      have sp : seqD (pD p) = some (p.map .int) := rfl
      simp! only [sp]
      refine for_map (enc := D.int) (xs := p) (fun _ s => ∃ (xs : List Int) (o2 o6 : Option SD), s = [some (.sh (ilD L)), some (.sh (.int (m : Int))), o2, some (.sh (pD p)), some (.ow (inD' xs)), some (.sh (.int ((pre.length : Nat) : Int))), o6] ∧ xs.length = m) ⟨_, _, _, rfl, hx⟩ ?_ ?_
      ·rintro pr t po e2 s ⟨xs, o2, o6, rfl, hx⟩
       have ht := lt t (List.mem_flatten.mpr ⟨p, hp, by rw [e2]; simp⟩)
       obtain ⟨o', hl', so⟩ := st_intI (x := ((pre.length : Nat) : Int)) hx ht.1 ht.2
       simp! only [so, hol_some]
       exact ⟨_, _, _, rfl, hl'⟩
      ·rintro s ⟨xs, o2, o6, rfl, hx⟩
       exact ⟨_, _, _, _, _, rfl, hx⟩
     ·rintro s ⟨xs, o2, o3, o5, o6, rfl, hx⟩
      simp! only [hol_some]
      exact ⟨_, rfl⟩
 obtain ⟨o, e, h⟩ := key
 cases hk : okB m L with
 | true =>
  rw [hk, if_pos rfl] at h
  obtain ⟨x, rfl⟩ := h
  exact ⟨_, runX_rt rfl ⟨_, e, rfl⟩, (if_pos rfl).mpr ⟨_, rfl⟩⟩
 | false =>
  rw [hk, if_neg Bool.false_ne_true] at h
  obtain ⟨s, rfl⟩ := h
  exact ⟨_, runX_ex rfl ⟨_, e, _, rfl⟩, (if_neg Bool.false_ne_true).mpr rfl⟩
theorem eqv_il : ∀ a b : List Int, PyData.eqvAll (toPs (a.map D.int)) (toPs (b.map D.int)) = decide (a = b)
 | [], [] => rfl
 | [], _ :: _ => by rw [decide_eq_false (by intro z; cases z)]; rfl
 | _ :: _, [] => by rw [decide_eq_false (by intro z; cases z)]; rfl
 | x :: a, y :: b => by
  show ((x == y) && PyData.eqvAll (toPs (a.map D.int)) (toPs (b.map D.int))) = _
  rw [eqv_il a b, Bool.eq_iff_iff, Bool.and_eq_true, beq_iff_eq, decide_eq_true_eq, decide_eq_true_eq, List.cons.injEq]
theorem eq_pD {a b : List Int} : eqD (pD a) (pD b) = some (.bl (decide (a = b))) := by
 unfold eqD pD
 rw [okP_of (okN_ints a) (by omega), okP_of (okN_ints b) (by omega), if_pos (show (true && true) = true from rfl)]
 exact congrArg some (congrArg D.bl (eqv_il a b))
theorem okN_scr (p : List Int) : okN 1 (.scr p) := ⟨lay_ints' _, by
 show PyData.depthAll _ + 1 ≤ 1
 rw [dep_ints']
 omega⟩
theorem seq_sl {L : List (List Int)} : seqD (slD L) = some (L.map D.scr) := (rfl)
theorem scr_ne {p : List Int} : eqD (.scr p) (.lst []) = some (.bl (!neP p)) := by
 have o2 : okP (.lst []) = true := rfl
 unfold eqD
 rw [okP_of (okN_scr p) (by omega), o2, if_pos (show (true && true) = true from rfl)]
 cases p <;> rfl
theorem for_accR {α : Type} {enc : α → D} {i : Nat} {b : SS → Option Out} {X : List α} (I : List α → SS → Prop) (p : α → Bool) (d : D) : ∀ {xs pre : List α} {s : SS}, X = pre ++ xs → I pre s → (∀ pre x post, X = pre ++ x :: post → ∀ δ, I pre δ → hol (b (δ.set i (some (.sh (enc x))))) fun o => if p x = true then (∃ δ', o = .nx δ' ∧ I (pre ++ [x]) δ') else o = .rt d) →
  hol (forD i b (xs.map enc) s) fun o => if xs.all p = true then (∃ δ', o = .nx δ' ∧ I X δ') else o = .rt d
 | [], pre, s, eX, h0, _ => ⟨_, rfl, (if_pos rfl).mpr ⟨s, rfl, by rw [eX, List.append_nil]; exact h0⟩⟩
 | x :: r, pre, s, eX, h0, hs => by
  obtain ⟨o, e, q⟩ := hs pre x r eX s h0
  rw [List.map_cons]
  unfold forD
  rw [e, List.all_cons]
  cases hp : p x with
  | true =>
   rw [hp, if_pos rfl] at q
   obtain ⟨s1, rfl, h1⟩ := q
   rw [Bool.true_and]
   exact for_accR I p d (xs := r) (by rw [eX, List.append_assoc]; rfl) h1 hs
  | false =>
   rw [hp, if_neg Bool.false_ne_true] at q
   subst q
   rw [Bool.false_and]
   exact ⟨_, rfl, (if_neg Bool.false_ne_true).mpr rfl⟩
theorem rng_ints {m : Nat} : rngL 0 m = (rngI m).map .int := by
 unfold rngI
 rw [rng_nat, List.map_map]
 rfl
theorem srt_rng {m : Nat} {o : List Int} (h : o.Perm (rngI m)) : srtI o = rngI m := by
 have up : (rngI m).Pairwise (· ≤ ·) := by
  unfold rngI
  rw [List.pairwise_map]
  exact List.pairwise_lt_range.imp fun h => by omega
 exact (srtI_is h.symm up).symm
theorem toI_fl {P : List (List Nat)} : (toI P).flatten = P.flatten.map fun n => ((n : Nat) : Int) := by
 unfold toI
 rw [List.map_flatten]
theorem good_eq {L : List (List Int)} (hS : Sm L) {m : Nat} (hm : m ≤ 8) : m__law_good [slD L, .int (m : Int)] = some (.bl (okB m L)) := by
 refine run_of rfl ?_
 simp! only [g__law_good, flat_nil, seq_sl]
 refine hol_bindR (I := fun s => ∃ o3, s = [some (.sh (slD L)), some (.sh (.int (m : Int))), some (.ow (pD L.flatten)), o3]) (c := L.all neP) (d := .bl false) ?_ ?_ ?_
 ·refine for_accR (enc := D.scr) (X := L) (fun pre s => ∃ o3, s = [some (.sh (slD L)), some (.sh (.int (m : Int))), some (.ow (pD pre.flatten)), o3]) neP (.bl false) (pre := []) rfl ⟨_, rfl⟩ ?_
  rintro pre p post e s ⟨o3, rfl⟩
  cases hp : neP p with
  | true =>
   have en : eqD (.scr p) (.lst []) = some (.bl false) := by rw [scr_ne, hp]; rfl
   have := fl_pre e
   have := hS.2
   have ct : catSO (some (pD pre.flatten)) (some (.scr p)) = some ((pre.flatten ++ p).map .int) := catS_lr (by omega)
   have ef : (pre ++ [p]).flatten = pre.flatten ++ p := by simp
   rw [ef]
   obtain ⟨W, hW⟩ : ∃ W, W = pre.flatten ++ p := ⟨_, rfl⟩
   rw [← hW] at ct ⊢
   have fl : flatO (some (W.map D.int)) = some (W.map D.int) := eo_flat (imms_int _)
   have pl : D.lst (W.map .int) = pD W := rfl
   simp_all! only [en, ct, fl, pl, hol_some, if_true]
   exact ⟨_, rfl, _, rfl⟩
  | false =>
   have en : eqD (.scr p) (.lst []) = some (.bl true) := by rw [scr_ne, hp]; rfl
   simp_all! only [en, hol_some, Bool.false_eq_true, if_false]
 ·rintro ha s ⟨o3, rfl⟩
  have hl := hS.2
  have so : sortF [pD L.flatten] = some ((srtI L.flatten).map .int) := ea_sortL (by omega)
  have tl : ∀ W : List Int, D.lst (W.map .int) = pD W := fun _ => rfl
  have key : decide (srtI L.flatten = rngI m) = okB m L := by
   unfold okB
   rw [ha, Bool.true_and, Bool.eq_iff_iff, decide_eq_true_eq]
   constructor
   ·intro z
    exact tells_perm ((srtI_perm L.flatten).symm.trans (by rw [z]))
   ·intro z
    obtain ⟨P, e, K⟩ := ok_nat (m := m) (L := L) (by unfold okB; rw [ha, z]; rfl)
    refine srt_rng ?_
    rw [e, toI_fl]
    exact K.pm.map _
  simp! only [so, rng1_nat (show m ≤ 1000000 by omega), rng_ints, eo_small (show ((rngI m).map D.int).length ≤ 1000000 by simp [rngI]; omega), tl, eq_pD, key, hol_some]
 ·intro ha
  unfold okB
  rw [ha]
  rfl
theorem fil_all {p : Nat → Bool} : ∀ {l : List Nat}, (decide ((0 : Int) < ((l.filter p).length : Int)) && decide (((l.filter p).length : Int) < (l.length : Int))) = !((l.all p) || !(l.any p))
 | [] => rfl
 | x :: r => by
  have ih := fil_all (p := p) (l := r)
  have hle := List.length_filter_le p r
  rw [List.filter_cons, List.all_cons, List.any_cons]
  cases hx : p x with
  | true =>
   rw [if_pos rfl, List.length_cons, List.length_cons]
   have h1 : decide ((0 : Int) < (((r.filter p).length + 1 : Nat) : Int)) = true := decide_eq_true (by omega)
   rw [h1]
   simp only [Bool.true_and, Bool.true_or, Bool.not_true, Bool.or_false]
   by_cases ha : r.all p = true
   ·have : (r.filter p).length = r.length := by rw [List.filter_eq_self.mpr (List.all_eq_true.mp ha)]
    rw [ha, this]
    simp
   ·rw [Bool.not_eq_true] at ha
    rw [ha]
    have : (r.filter p).length ≠ r.length := fun e => by
     have e2 : r.filter p = r := List.filter_sublist.eq_of_length e
     have : r.all p = true := List.all_eq_true.mpr (List.filter_eq_self.mp e2)
     rw [this] at ha; cases ha
    exact decide_eq_true (by omega)
  | false =>
   rw [if_neg Bool.false_ne_true, List.length_cons]
   simp only [Bool.false_and, Bool.false_or, Bool.not_not]
   have h2 : decide (((r.filter p).length : Int) < ((r.length + 1 : Nat) : Int)) = true := decide_eq_true (by omega)
   rw [h2, Bool.and_true]
   by_cases ha : r.any p = true
   ·rw [ha]
    obtain ⟨y, hy, hp⟩ := List.any_eq_true.mp ha
    have := List.length_pos_of_mem (List.mem_filter.mpr ⟨hy, hp⟩)
    exact decide_eq_true (by omega)
   ·rw [Bool.not_eq_true] at ha
    rw [ha]
    have : r.filter p = [] := by
     rw [List.filter_eq_nil_iff]
     intro y hy hp
     have : r.any p = true := List.any_eq_true.mpr ⟨y, hy, hp⟩
     rw [this] at ha; cases ha
    rw [this]
    rfl
section
variable {T : List (List Bool)} {m : Nat} {th : List Nat}
theorem breaks_s (sq : Sq m T) (hm : m ≤ 900) {o : Nat} (ho : o < m) (hl : th.length ≤ 900) (h : ∀ x ∈ th, x < m) : m__law_breaks [tabD T, sD th, .int (o : Int)] = some (.bl (brk T o th)) := by
 refine run_of rfl ?_
 cases hc : th.contains o with
 | true =>
  simp! only [g__law_breaks, in_sc, hc, hol_some]
  unfold brk
  rw [hc]
  rfl
 | false =>
  simp! only [g__law_breaks, in_sc, hc, seq_sc]
  rw [cx_of (enc := nD) (xs := th) (fun j => at2 T o j) nD (by omega) (fun j hj => by simp! only [nD, ix2 sq ho (h j hj)]) fun j _ _ => by simp! only [nD]]
  obtain ⟨be, hbe⟩ : ∃ be, be = th.filter fun j => at2 T o j := ⟨_, rfl⟩
  have et : D.lst (be.map nD) = thD be := rfl
  have key : (decide ((0 : Int) < (be.length : Int)) && decide ((be.length : Int) < (th.length : Int))) = brk T o th := by
   unfold brk seesB
   rw [hbe, fil_all, hc]
   rfl
  simp! only [← hbe, flat_th, et, len_th, len_sc]
  rw [← key]
  cases decide ((0 : Int) < (be.length : Int)) <;> simp! only [hol_some, Bool.false_and, Bool.true_and]
theorem together_s (sq : Sq m T) (hm : m ≤ 900) (hl : th.length ≤ 900) (h : ∀ x ∈ th, x < m) : m__law_together [tabD T, sD th] = some (.bl (togB T m th)) := by
 refine run_of rfl ?_
 simp! only [g__law_together, len_tab, sq.1, rng1_nat (show m ≤ 1000000 by omega)]
 refine hol_bindR (I := fun s => ∃ o2, s = [some (.sh (tabD T)), some (.sh (sD th)), o2]) (c := togB T m th) (d := .bl false) ?_ ?_ ?_
 ·refine for_rngR (fun s => ∃ o2, s = [some (.sh (tabD T)), some (.sh (sD th)), o2]) (fun o => !brk T o th) (.bl false) ⟨_, rfl⟩ ?_
  rintro o ho s ⟨o2, rfl⟩
  have b := breaks_s sq hm ho hl h
  cases hb : brk T o th <;> rw [hb] at b <;> simp! only [b, hol_some, Bool.not_true, Bool.not_false, if_true, if_false, Bool.false_eq_true]
  exact ⟨_, rfl, _, rfl⟩
 ·rintro hc s ⟨o2, rfl⟩
  simp! only [hc, hol_some]
 ·intro hc
  rw [hc]
end
theorem sl_toI {P : List (List Nat)} : slD (toI P) = .lst (P.map sD) := by
 unfold slD toI
 rw [List.map_map]
 rfl
section
variable {T : List (List Bool)} {m : Nat} {P : List (List Nat)}
theorem seq_slP : seqD (slD (toI P)) = some (P.map sD) := by rw [sl_toI]; rfl
theorem alltog_s (sq : Sq m T) (hm : m ≤ 8) (K : Ok m P) : m__law_all_together [tabD T, slD (toI P)] = some (.bl (P.all (togB T m))) := by
 refine run_of rfl ?_
 simp! only [g__law_all_together, seq_slP]
 refine hol_bindR (I := fun s => ∃ o2, s = [some (.sh (tabD T)), some (.sh (slD (toI P))), o2]) (c := P.all (togB T m)) (d := .bl false) ?_ ?_ ?_
 ·refine for_mapR (enc := sD) (fun s => ∃ o2, s = [some (.sh (tabD T)), some (.sh (slD (toI P))), o2]) (togB T m) (.bl false) ⟨_, rfl⟩ ?_
  rintro p hp s ⟨o2, rfl⟩
  have b := together_s sq (show m ≤ 900 by omega) (show p.length ≤ 900 by have := K.pl hp; omega) (K.lt hp)
  cases hb : togB T m p <;> rw [hb] at b <;> simp! only [b, hol_some, Bool.not_true, Bool.not_false, if_true, if_false, Bool.false_eq_true]
  exact ⟨_, rfl, _, rfl⟩
 ·rintro hc s ⟨o2, rfl⟩
  simp! only [hc, hol_some]
 ·intro hc
  rw [hc]
def hdT (T : List (List Bool)) (P : List (List Nat)) : List (List Bool) := gridT (P.map fun p => p.headD 0) (at2 T)
theorem seq_lls {L : List (List Nat)} : seqD (llD L) = some (L.map thD) := (rfl)
theorem folded_bad {L : List (List Int)} (hS : Sm L) (sq : Sq m T) (hm : m ≤ 8) (h : okB m L = false) : m_folded [tabD T, ilD L] = some (.exc 3) := by
 refine runX_ex rfl ?_
 obtain ⟨d, e, q⟩ := places_is hS hm
 rw [h, if_neg Bool.false_ne_true] at q
 subst q
 simp! only [g_folded, len_tab, sq.1, e, hol_some]
 exact ⟨_, rfl⟩
theorem heads_lt (K : Ok m P) : ∀ x ∈ P.map fun p => p.headD 0, x < m := fun x hx => by
 obtain ⟨p, hp, rfl⟩ := List.mem_map.mp hx
 cases h : p with
 | nil => exact absurd h (K.ne p hp)
 | cons a r => exact K.lt hp a (by rw [h]; exact List.mem_cons_self)
theorem folded_good (hS : Sm (toI P)) (sq : Sq m T) (hm : m ≤ 8) (K : Ok m P) (h : okB m (toI P) = true) : m_folded [tabD T, ilD (toI P)] = some (if P.all (togB T m) = true then .val (tabD (hdT T P)) else .exc 3) := by
 have hl := K.len
 obtain ⟨d, e, q⟩ := places_is hS hm
 rw [h, if_pos rfl] at q
 obtain ⟨x, rfl⟩ := q
 rw [← ll_il'] at e ⊢
 have c1 : compX (some (P.map thD)) (compF dYes (dCall m_stands_together [dVar 0, dVar 2]) [some (tabD T), some (llD P)]) = some ((P.map (togB T m)).map bD) := by
  rw [List.map_map]
  refine cx_all (enc := thD) (xs := P) (fun p => bD (togB T m p)) (by omega) fun p hp => ?_
  have st := stog_eq sq (show m ≤ 900 by omega) (show p.length ≤ 900 by have := K.pl hp; omega) (K.lt hp)
  simp! only [st, bD]
 have al : allF [.lst ((P.map (togB T m)).map bD)] = some (.bl (P.all (togB T m))) := by
  rw [ea_all, List.all_map]
  rfl
 cases ha : P.all (togB T m) with
 | false =>
  rw [ha] at al
  refine runX_ex rfl ?_
  simp_all! only [g_folded, len_tab, sq.1, e, seq_lls, c1, al, hol_some]
  exact ⟨_, rfl⟩
 | true =>
  rw [ha] at al
  refine runX_rt rfl ?_
  have c2 : compX (some (P.map thD)) (compF dYes (d2 ixD (dVar 2) (dC (.int 0))) [some (tabD T), some (llD P)]) = some ((P.map fun p => p.headD 0).map nD) := by
   rw [List.map_map]
   refine cx_all (enc := thD) (xs := P) (fun p => nD (p.headD 0)) (by omega) fun p hp => ?_
   have ix : ixD (thD p) (.int 0) = some (nD (p.headD 0)) := by
    cases h : p with
    | nil => exact absurd h (K.ne p hp)
    | cons a r => exact ea_at0
   simp! only [ix]
  have pt := part_eq sq (th := P.map fun p => p.headD 0) (by rw [List.length_map]; omega) (heads_lt K)
  simp_all! only [g_folded, len_tab, sq.1, e, seq_lls, c1, al, c2, th_lst, pt, hol_some]
  rfl
end
def badD : D := .lst [.lst [.bl true, .bl true, .bl false, .bl false, .bl false], .non]
theorem x1 : isXF ["BadParts"] ["BadParts"] (.exc "BadParts") = some (.bl true) := (rfl)
theorem x2 : isXF [] ["BadParts"] (.exc "BadParts") = some (.bl false) := (rfl)
theorem f3 : flatO (some [.bl true, .bl true, .bl false]) = some [.bl true, .bl true, .bl false] := (rfl)
theorem k5 : catO (some (.lst [.bl true, .bl true, .bl false])) (some (.lst [.bl false, .bl false])) = some [.bl true, .bl true, .bl false, .bl false, .bl false] := (rfl)
theorem f5 : flatO (some [.bl true, .bl true, .bl false, .bl false, .bl false]) = some [.bl true, .bl true, .bl false, .bl false, .bl false] := (rfl)
theorem frz_sh {d : D} {r : SS} : frzS 0 (some (.sh d) :: r) = some (.sh d) :: r := (rfl)
section
variable {T : List (List Bool)} {m : Nat} {L : List (List Int)}
theorem ref_bad1 (h : m_folded [tabD T, ilD L] = some (.exc 3)) : m__law_refused [tabD T, ilD L, .bl true] = some badD := by
 refine run_of rfl ?_
 simp! only [g__law_refused, frz_sh, flat_nil, h, x1, x2, f3, k5, f5, hol_some]
 rfl
theorem ref_bad0 (sq : Sq m T) (h : m_places_of [ilD L, .int (m : Int)] = some (.exc 3)) : m__law_refused [tabD T, ilD L, .bl false] = some badD := by
 refine run_of rfl ?_
 simp! only [g__law_refused, frz_sh, flat_nil, len_tab, sq.1, h, x1, x2, f3, k5, f5, hol_some]
 rfl
theorem ref_ok0 (sq : Sq m T) {x : D} (h : m_places_of [ilD L, .int (m : Int)] = some (.val x)) : m__law_refused [tabD T, ilD L, .bl false] = some (.lst [.lst [], .non]) := by
 refine run_of rfl ?_
 simp! only [g__law_refused, frz_sh, flat_nil, len_tab, sq.1, h, hol_some]
theorem ref_ok1 {H : List (List Bool)} (h : m_folded [tabD T, ilD L] = some (.val (tabD H))) : m__law_refused [tabD T, ilD L, .bl true] = some (.lst [.lst [], tabD H]) := by
 refine run_of rfl ?_
 simp! only [g__law_refused, frz_sh, flat_nil, h, hol_some]
theorem due_bad (d : D) (b : Bool) : m__law_due [tabD T, d, .bl false, .bl b] = some badD := by
 refine run_of rfl ?_
 simp_all! only [g__law_due, f5, hol_some]
 rfl
theorem due_ok0 (d : D) : m__law_due [tabD T, d, .bl true, .bl false] = some (.lst [.lst [], .non]) := by
 refine run_of rfl ?_
 simp_all! only [g__law_due, flat_nil, hol_some]
end
theorem due_ok1 {T : List (List Bool)} {m : Nat} {P : List (List Nat)} (sq : Sq m T) (hm : m ≤ 8) (K : Ok m P) : m__law_due [tabD T, slD (toI P), .bl true, .bl true] = some (.lst [.lst [], tabD (hdT T P)]) := by
 refine run_of rfl ?_
 have hl := K.len
 obtain ⟨hs, hhs⟩ : ∃ hs, hs = P.map fun p => p.headD 0 := ⟨_, rfl⟩
 have lt := heads_lt K
 have hsl : hs.length ≤ 8 := by rw [hhs, List.length_map]; omega
 rw [← hhs] at lt
 have c1 : compX (some (P.map sD)) (compF dYes (d2 ixD (dVar 5) (dC (.int 0))) [some (tabD T), some (slD (toI P)), some (.bl true), some (.bl true), none]) = some (hs.map nD) := by
  rw [hhs, List.map_map]
  refine cx_all (enc := sD) (xs := P) (fun p => nD (p.headD 0)) (by omega) fun p hp => ?_
  have ix : ixD (sD p) (.int 0) = some (nD (p.headD 0)) := by
   cases h : p with
   | nil => exact absurd h (K.ne p hp)
   | cons a r => exact ix_sc (th := a :: r) (k := 0) (by simp)
  simp! only [ix]
 have c2 : ∀ o ∈ hs, compX (some (hs.map nD)) (compF dYes (d2 ixD (d2 ixD (dVar 0) (dVar 5)) (dVar 6)) [some (tabD T), some (slD (toI P)), some (.bl true), some (.bl true), some (thD hs), some (nD o)]) = some ((hs.map fun j => at2 T o j).map bD) := fun o ho => by
  rw [List.map_map]
  exact cx_all (enc := nD) (xs := hs) (fun j => bD (at2 T o j)) (by omega) fun j hj => by simp! only [nD, ix2 sq (lt o ho) (lt j hj), bD]
 have c3 : compX (some (hs.map nD)) (compF dYes (mkFlat (dComp (dSeq (dVar 4)) dYes (d2 ixD (d2 ixD (dVar 0) (dVar 5)) (dVar 6)))) [some (tabD T), some (slD (toI P)), some (.bl true), some (.bl true), some (thD hs)]) = some ((gridT hs (at2 T)).map rowD) := by
  unfold gridT
  rw [List.map_map]
  refine cx_all (enc := nD) (xs := hs) (fun i => rowD (hs.map fun j => at2 T i j)) (by omega) fun o ho => ?_
  have fl := eo_flat (imms_map_bD (hs.map fun j => at2 T o j))
  simp! only [seq_th, c2 o ho, fl]
  rfl
 have ht : hdT T P = gridT hs (at2 T) := by rw [hhs]; rfl
 have tb : D.lst ((gridT hs (at2 T)).map rowD) = tabD (gridT hs (at2 T)) := rfl
 simp_all! only [g__law_due, seq_slP, c1, flat_th, th_lst, seq_th, c3, flat_nil, tb, ht, hol_some]
section
variable {O : List (List Bool)} {Is : List (List (List Bool))} {hs : List (Nat × Nat)}
theorem pc_mem {k t : Nat} : t ∈ pc hs k ↔ t < hs.length ∧ (hs.getD t (0, 0)).1 = k := by
 unfold pc
 rw [List.mem_filter, List.mem_range, decide_eq_true_eq]
theorem ok_pieces (M : Mix O Is hs) : Ok hs.length (pcs O.length hs) := by
 have gt : ∀ t (h : t < hs.length), hs.getD t (0, 0) = hs[t] := fun t h => by simp [List.getD, h]
 refine ⟨fun p hp => ?_, ?_⟩
 ·obtain ⟨k, hk, rfl⟩ := List.mem_map.mp hp
  have hk : k < Is.length := by rw [M.len]; exact List.mem_range.mp hk
  have hz : ((k, 0) : Nat × Nat) ∈ hs := (M.prt.mem _).mpr ⟨hk, (M.prt.inn k hk).2⟩
  obtain ⟨t, ht, e⟩ := List.mem_iff_getElem.mp hz
  exact List.ne_nil_of_mem (pc_mem.mpr ⟨ht, by rw [gt t ht, e]⟩)
 ·refine (List.perm_ext_iff_of_nodup ?_ List.nodup_range).mpr fun x => ?_
  ·unfold List.Nodup
   rw [List.pairwise_flatten]
   refine ⟨fun p hp => ?_, ?_⟩
   ·obtain ⟨k, hk, rfl⟩ := List.mem_map.mp hp
    exact List.Pairwise.filter _ List.nodup_range
   unfold pcs
   rw [List.pairwise_map]
   refine (List.nodup_range (n := O.length)).imp fun {k j} hkj x hx y hy e => ?_
   subst e
   exact hkj ((pc_mem.mp hx).2.symm.trans (pc_mem.mp hy).2)
  ·rw [List.mem_flatten, List.mem_range]
   constructor
   ·rintro ⟨p, hp, hx⟩
    obtain ⟨k, hk, rfl⟩ := List.mem_map.mp hp
    exact (pc_mem.mp hx).1
   ·intro hx
    have h1 := (M.prt.mem hs[x]).mp (List.getElem_mem hx)
    refine ⟨pc hs hs[x].1, List.mem_map.mpr ⟨_, List.mem_range.mpr (by rw [← M.len]; exact h1.1), rfl⟩, pc_mem.mpr ⟨hx, by rw [gt x hx]⟩⟩
end
theorem toPs_i : ∀ p : List Int, toPs (p.map D.int) = p.map PyData.int
 | [] => rfl
 | a :: r => by
  show toP (.int a) :: toPs (r.map D.int) = _
  rw [toPs_i r]
  rfl
theorem toPs_l : ∀ L : List (List Int), toPs (L.map fun p => D.lst (p.map .int)) = toPs (L.map D.scr)
 | [] => rfl
 | p :: r => by
  show toP (.lst (p.map .int)) :: toPs (r.map fun p => D.lst (p.map .int)) = toP (.scr p) :: toPs (r.map D.scr)
  rw [toPs_l r]
  congr 1
  show PyData.list (toPs (p.map .int)) = PyData.list (p.map PyData.int)
  rw [toPs_i]
theorem okN_il (L : List (List Int)) : okN 2 (ilD L) := okN_map fun p _ => okN_ints p
theorem okN_sl (L : List (List Int)) : okN 2 (slD L) := okN_map fun p _ => okN_scr p
theorem stay_eq (T : List (List Bool)) (L : List (List Int)) : neD (.lst [tabD T, ilD L]) (.lst [tabD T, slD L]) = some (.bl false) := by
 have o1 : okP (.lst [tabD T, ilD L]) = true := okP_of (okN_2 (okN_tab T) (okN_il L)) (by omega)
 have o2 : okP (.lst [tabD T, slD L]) = true := okP_of (okN_2 (okN_tab T) (okN_sl L)) (by omega)
 have e : toP (.lst [tabD T, ilD L]) = toP (.lst [tabD T, slD L]) := by
  show PyData.list [toP (tabD T), PyData.list (toPs (L.map fun p => D.lst (p.map .int)))] = PyData.list [toP (tabD T), PyData.list (toPs (L.map D.scr))]
  rw [toPs_l]
 have s := ne_self o2
 unfold neD at s ⊢
 rw [o2] at s
 rw [o1, o2, e]
 exact s
theorem law_true (ns : List Int) (hns : ns.length ≤ 63) : m_law [.scr ns] = some (.bl true) := by
 refine run_of rfl ?_
 obtain ⟨_, e0, O, Is, hs, rfl, M⟩ := mixed_eq ns
 have e0 : m__law_mixed [.scr ns] = some (mixD O Is hs) := e0
 have et := mtable_eq M
 have F := full_mtab M
 have h0 := hs_pos M
 have h8 := M.le
 have ep := pieces_eq M
 have K := ok_pieces M
 have PL : (pcs O.length hs).length = O.length := by simp [pcs]
 have o8 := M.o8
 have op := M.pos
 obtain ⟨T, hT⟩ : ∃ T, T = mtab O Is hs := ⟨_, rfl⟩
 obtain ⟨m, hm⟩ : ∃ m, m = hs.length := ⟨_, rfl⟩
 rw [← hT] at et F
 rw [← hm] at F h0 h8 K
 obtain ⟨P, hP⟩ : ∃ P, P = pcs O.length hs := ⟨_, rfl⟩
 rw [← hP] at ep K PL
 have sq := F.sq
 obtain ⟨cs, ecs, hcs⟩ := cut_ints ns none (some 30)
 have cp : ∀ d1 d3 d4 d5 d6 d7 : Option D, compX (some (T.map rowD)) (compF dYes (mkFlat (dCallL listF [dVar 8])) [some (.scr ns), d1, some (tabD T), d3, d4, d5, d6, d7]) = some (T.map rowD) := fun d1 d3 d4 d5 d6 d7 => by
  refine cx_all (enc := rowD) (xs := T) rowD (by rw [sq.1]; omega) fun r _ => ?_
  have lr : listF [rowD r] = some (r.map bD) := rfl
  simp! only [lr, eo_flat (imms_map_bD _)]
  rfl
 have lT : D.lst (T.map rowD) = tabD T := rfl
 have sT : seqD (tabD T) = some (T.map rowD) := rfl
 have ct : catO (some (.lst [.int 0])) (some (.lst (cs.map .int))) = some ((0 :: cs).map .int) := by
  rw [eo_cat (by simp; omega)]
  rfl
 have lc : D.lst ((0 :: cs).map .int) = pD (0 :: cs) := rfl
 have sp : ∀ p, seqD (pD p) = some (p.map .int) := fun _ => rfl
 simp_all! only [g_law, e0, et, ecs, ct, lc, sp]
 refine hol_bindO (I := fun s => ∃ o3 o4 o5 o6 o7, s = [some (.sh (.scr ns)), some (.sh (mixD O Is hs)), some (.sh (tabD T)), o3, o4, o5, o6, o7]) (for_map (enc := D.int) (xs := 0 :: cs) (fun _ s => ∃ o3 o4 o5 o6 o7, s = [some (.sh (.scr ns)), some (.sh (mixD O Is hs)), some (.sh (tabD T)), o3, o4, o5, o6, o7]) ⟨_, _, _, _, _, rfl⟩ ?_ fun s z => ⟨s, rfl, z⟩) ?_
 ·rintro pre c post e s ⟨o3, o4, o5, o6, o7, rfl⟩
  have kf := K.fl
  obtain ⟨_, es, L, rfl, hS⟩ := spoiled_is (P := P) (by omega) (by omega) (fun p hp => ⟨K.ne p hp, by have := K.pl hp; omega⟩) (by omega) c m
  have eg := good_eq hS h8
  have cl : ∀ d1 d3 d5 d6 d7 : Option D, compX (some (L.map D.scr)) (compF dYes (mkFlat (dCallL listF [dVar 8])) [some (.scr ns), d1, some (tabD T), d3, some (slD L), d5, d6, d7]) = some (L.map pD) := fun d1 d3 d5 d6 d7 => by
   refine cx_all (enc := D.scr) (xs := L) pD (by have := hS.1; omega) fun p _ => ?_
   have lr : listF [.scr p] = some (p.map .int) := rfl
   simp! only [lr, eo_flat (imms_int _)]
   rfl
  have lL : D.lst (L.map pD) = ilD L := rfl
  have sf : seqD (.lst [.bl false, .bl true]) = some ([false, true].map D.bl) := rfl
  simp! only [ep, len_tab, sq.1, es, eg, sf]
  obtain ⟨hd, ehd⟩ : ∃ hd, hd = D.lst [tabD T, ilD L] := ⟨_, rfl⟩
  have ix0 : ixD hd (.int 0) = some (tabD T) := by rw [ehd]; rfl
  have ix1 : ixD hd (.int 1) = some (ilD L) := by rw [ehd]; rfl
  have nn : neD hd (.lst [tabD T, slD L]) = some (.bl false) := by rw [ehd]; exact stay_eq T L
  refine for_map (enc := D.bl) (xs := [false, true]) (fun pr s => ∃ g o6 o7, s = [some (.sh (.scr ns)), some (.sh (mixD O Is hs)), some (.sh (tabD T)), some (.sh (.int c)), some (.ow (slD L)), some (.sh (.bl g)), o6, o7] ∧ (pr.length ≤ 1 → g = okB m L)) ⟨_, _, _, rfl, fun _ => rfl⟩ ?_ ?_
  ·rintro pr x po e2 s ⟨g, o6, o7, rfl, hg⟩
   have hpl : pr.length ≤ 1 := by
    have := congrArg List.length e2
    simp at this
    omega
   have hg := hg hpl
   subst hg
   have fin : ∀ g, (x = false → g = okB m L) → (pr ++ [x]).length ≤ 1 → g = okB m L := fun g h hl => h (by
    have : pr = [] := List.eq_nil_of_length_eq_zero (by rw [List.length_append] at hl; have : [x].length = 1 := rfl; omega)
    subst this
    cases e2
    rfl)
   cases hk : okB m L with
   | false =>
    have rf : m__law_refused [tabD T, ilD L, .bl x] = some badD := by
     cases x with
     | true => exact ref_bad1 (folded_bad hS sq h8 hk)
     | false =>
      obtain ⟨d, e, q⟩ := places_is hS h8
      rw [hk, if_neg Bool.false_ne_true] at q
      subst q
      exact ref_bad0 sq e
    have du := due_bad (T := T) (slD L) x
    have nb : neD badD badD = some (.bl false) := ne_self rfl
    simp_all! only [seq_sl, sT, cp, cl, lT, lL, ← ehd, ix0, ix1, rf, du, nb, nn, hol_some]
    exact ⟨_, _, _, rfl, fun _ => rfl⟩
   | true =>
    obtain ⟨Q, eQ, KQ⟩ := ok_nat hk
    subst eQ
    have ag := alltog_s sq h8 KQ
    cases x with
    | false =>
     obtain ⟨d, e, q⟩ := places_is hS h8
     rw [hk, if_pos rfl] at q
     obtain ⟨w, rfl⟩ := q
     have rf := ref_ok0 sq e
     have du := due_ok0 (T := T) (slD (toI Q))
     have nb : neD (.lst [.lst [], .non]) (.lst [.lst [], .non]) = some (.bl false) := ne_self rfl
     simp_all! only [seq_sl, sT, cp, cl, lT, lL, ← ehd, ix0, ix1, rf, du, nb, nn, hol_some]
     exact ⟨_, _, _, rfl, fun _ => rfl⟩
    | true =>
     have fo := folded_good hS sq h8 KQ hk
     cases ha : Q.all (togB T m) with
     | false =>
      rw [ha] at ag
      rw [ha, if_neg Bool.false_ne_true] at fo
      have rf := ref_bad1 fo
      have du := due_bad (T := T) (slD (toI Q)) true
      have nb : neD badD badD = some (.bl false) := ne_self rfl
      simp_all! only [seq_sl, sT, cp, cl, lT, lL, ag, ← ehd, ix0, ix1, rf, du, nb, nn, hol_some]
      exact ⟨_, _, _, rfl, fun h => absurd (fin false (fun z => by cases z) h) (by rw [hk]; exact Bool.false_ne_true)⟩
     | true =>
      rw [ha] at ag
      rw [ha, if_pos rfl] at fo
      have rf := ref_ok1 fo
      have du := due_ok1 sq h8 KQ
      have nb : neD (.lst [.lst [], tabD (hdT T Q)]) (.lst [.lst [], tabD (hdT T Q)]) = some (.bl false) := ne_same (okN_2 (okN_up (okN_th []) (by omega)) (okN_tab _)) (by omega)
      simp_all! only [seq_sl, sT, cp, cl, lT, lL, ag, ← ehd, ix0, ix1, rf, du, nb, nn, hol_some]
      exact ⟨_, _, _, rfl, fun _ => rfl⟩
  ·rintro s ⟨g, o6, o7, rfl, _⟩
   exact ⟨_, _, _, _, _, rfl⟩
 ·rintro s ⟨o3, o4, o5, o6, o7, rfl⟩
  simp! only [hol_some]
end Prg
open PySem PySem.W PyProof.Rows
set_option maxRecDepth 100000 in
set_option maxHeartbeats 0 in
theorem PySem.Challenge.cw_askorder_k75_bad_pieces_holds : PySem.Challenge.rw_askorder_k75_bad_pieces.Holds := by
 w_on; o_law; k_head; (case hw => w_witness2)
 k_fill
 refine Prg.walk (l := PySem.Challenge.rw_askorder_k75_bad_pieces) rfl rfl Prg.law_true (fun w h Y => PySem.W.kIn_of Y) ?F
 case F =>
  intro w mg fa h KX G hmg
  refine' Prg.all_mk KX G hmg ?a_part ?l_part ?c_part ?k_part ?a_picked ?l_picked ?c_picked ?k_picked ?a_stands_together ?l_stands_together ?c_stands_together ?k_stands_together ?a_parting ?l_parting ?c_parting ?k_parting ?a_sees_as_one ?l_sees_as_one ?c_sees_as_one ?k_sees_as_one ?a_is_thing ?l_is_thing ?c_is_thing ?k_is_thing ?a_tells_each_once ?l_tells_each_once ?c_tells_each_once ?k_tells_each_once ?a_places_of ?l_places_of ?c_places_of ?k_places_of ?a_folded ?l_folded ?c_folded ?k_folded ?a__law_cell_at ?l__law_cell_at ?c__law_cell_at ?k__law_cell_at ?a__law_table_by ?l__law_table_by ?c__law_table_by ?k__law_table_by ?a__law_mixed ?l__law_mixed ?c__law_mixed ?k__law_mixed ?a__law_beats ?l__law_beats ?c__law_beats ?k__law_beats ?a__law_table ?l__law_table ?c__law_table ?k__law_table ?a__law_pieces ?l__law_pieces ?c__law_pieces ?k__law_pieces ?a__law_breaks ?l__law_breaks ?c__law_breaks ?k__law_breaks ?a__law_together ?l__law_together ?c__law_together ?k__law_together ?a__law_any ?l__law_any ?c__law_any ?k__law_any ?a__law_spoiled ?l__law_spoiled ?c__law_spoiled ?k__law_spoiled ?a__law_refused ?l__law_refused ?c__law_refused ?k__law_refused ?a__law_due ?l__law_due ?c__law_due ?k__law_due ?a__law_good ?l__law_good ?c__law_good ?k__law_good ?a__law_all_together ?l__law_all_together ?c__law_all_together ?k__law_all_together ?a_law ?l_law ?c_law ?k_law ?x_AskError ?q_AskError ?x_BadBallot ?q_BadBallot ?x_BadOrder ?q_BadOrder ?x_BadParts ?q_BadParts ?x_NotAlike ?q_NotAlike ?e_BadParts_AskError ?xb_AskError ?xb_BadBallot ?xb_BadOrder ?xb_BadParts ?xb_NotAlike ?t_BadParts_BadBallot ?t_BadParts_NotAlike ?t_BadParts_BadParts ?t_BadParts_ValueError ?t_BadParts_BadOrder ?z_all ?z_any ?z_range ?z_len ?z_int ?z_isinstance ?z_bool ?z_enumerate ?z_min ?z_list ?z_ValueError ?z_sorted
  (case a_part => k_is)
  (case l_part => k_is)
  (case c_part => k_is)
  (case k_part => k_is)
  (case a_picked => k_is)
  (case l_picked => k_is)
  (case c_picked => k_is)
  (case k_picked => k_is)
  (case a_stands_together => k_is)
  (case l_stands_together => k_is)
  (case c_stands_together => k_is)
  (case k_stands_together => k_is)
  (case a_parting => k_is)
  (case l_parting => k_is)
  (case c_parting => k_is)
  (case k_parting => k_is)
  (case a_sees_as_one => k_is)
  (case l_sees_as_one => k_is)
  (case c_sees_as_one => k_is)
  (case k_sees_as_one => k_is)
  (case a_is_thing => k_is)
  (case l_is_thing => k_is)
  (case c_is_thing => k_is)
  (case k_is_thing => k_is)
  (case a_tells_each_once => k_is)
  (case l_tells_each_once => k_is)
  (case c_tells_each_once => k_is)
  (case k_tells_each_once => k_is)
  (case a_places_of => k_is)
  (case l_places_of => k_is)
  (case c_places_of => k_is)
  (case k_places_of => k_is)
  (case a_folded => k_is)
  (case l_folded => k_is)
  (case c_folded => k_is)
  (case k_folded => k_is)
  (case a__law_cell_at => k_is)
  (case l__law_cell_at => k_is)
  (case c__law_cell_at => k_is)
  (case k__law_cell_at => k_is)
  (case a__law_table_by => k_is)
  (case l__law_table_by => k_is)
  (case c__law_table_by => k_is)
  (case k__law_table_by => k_is)
  (case a__law_mixed => k_is)
  (case l__law_mixed => k_is)
  (case c__law_mixed => k_is)
  (case k__law_mixed => k_is)
  (case a__law_beats => k_is)
  (case l__law_beats => k_is)
  (case c__law_beats => k_is)
  (case k__law_beats => k_is)
  (case a__law_table => k_is)
  (case l__law_table => k_is)
  (case c__law_table => k_is)
  (case k__law_table => k_is)
  (case a__law_pieces => k_is)
  (case l__law_pieces => k_is)
  (case c__law_pieces => k_is)
  (case k__law_pieces => k_is)
  (case a__law_breaks => k_is)
  (case l__law_breaks => k_is)
  (case c__law_breaks => k_is)
  (case k__law_breaks => k_is)
  (case a__law_together => k_is)
  (case l__law_together => k_is)
  (case c__law_together => k_is)
  (case k__law_together => k_is)
  (case a__law_any => k_is)
  (case l__law_any => k_is)
  (case c__law_any => k_is)
  (case k__law_any => k_is)
  (case a__law_spoiled => k_is)
  (case l__law_spoiled => k_is)
  (case c__law_spoiled => k_is)
  (case k__law_spoiled => k_is)
  (case a__law_refused => k_is)
  (case l__law_refused => k_is)
  (case c__law_refused => k_is)
  (case k__law_refused => k_is)
  (case a__law_due => k_is)
  (case l__law_due => k_is)
  (case c__law_due => k_is)
  (case k__law_due => k_is)
  (case a__law_good => k_is)
  (case l__law_good => k_is)
  (case c__law_good => k_is)
  (case k__law_good => k_is)
  (case a__law_all_together => k_is)
  (case l__law_all_together => k_is)
  (case c__law_all_together => k_is)
  (case k__law_all_together => k_is)
  (case a_law => k_is)
  (case l_law => k_is)
  (case c_law => k_is)
  (case k_law => k_is)
  (case x_AskError => k_is)
  (case q_AskError => first | k_exc | kernel_rfl!)
  (case x_BadBallot => k_is)
  (case q_BadBallot => first | k_exc | kernel_rfl!)
  (case x_BadOrder => k_is)
  (case q_BadOrder => first | k_exc | kernel_rfl!)
  (case x_BadParts => k_is)
  (case q_BadParts => first | k_exc | kernel_rfl!)
  (case x_NotAlike => k_is)
  (case q_NotAlike => first | k_exc | kernel_rfl!)
  (case e_BadParts_AskError => first | kts_exm | k_is | kernel_rfl!)
  (case xb_AskError => first | kts_exm | k_is | kernel_rfl!)
  (case xb_BadBallot => first | kts_exm | k_is | kernel_rfl!)
  (case xb_BadOrder => first | kts_exm | k_is | kernel_rfl!)
  (case xb_BadParts => first | kts_exm | k_is | kernel_rfl!)
  (case xb_NotAlike => first | kts_exm | k_is | kernel_rfl!)
  (case t_BadParts_BadBallot => first | kts_exm | k_is | kernel_rfl!)
  (case t_BadParts_NotAlike => first | kts_exm | k_is | kernel_rfl!)
  (case t_BadParts_BadParts => first | kts_exm | k_is | kernel_rfl!)
  (case t_BadParts_ValueError => first | kts_exm | k_is | kernel_rfl!)
  (case t_BadParts_BadOrder => first | kts_exm | k_is | kernel_rfl!)
  (case z_all => k_is)
  (case z_any => k_is)
  (case z_range => k_is)
  (case z_len => k_is)
  (case z_int => k_is)
  (case z_isinstance => k_is)
  (case z_bool => k_is)
  (case z_enumerate => k_is)
  (case z_min => k_is)
  (case z_list => k_is)
  (case z_ValueError => k_is)
  (case z_sorted => k_is)
