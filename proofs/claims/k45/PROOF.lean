import PyProof.Rows.All
import Wide.All
import OpenK.AllK
import Wide.FinOn
import Lean
import PyProof.EqAt
import PyProof.EqKinds
import PyProof.TupleCall
import PySem.Challenge.RW_askorder_k45_whole_all_orders
set_option Elab.async false
set_option linter.all false
set_option maxRecDepth 100000
open PySem.W renaming Frag → aa, nsIn → ag, keepIn → ao, codeIn → aw, fnOf → aA, mg_of → aB, findIn → aS, mg_none_of → aX, kitOne → bc, kia_one → bd, mroIn → bB, exmOne → bF, specialIn → bJ, excIn → bX, takesIn → ce, InstAt → cK, methodObj → cU, kitx_list → cV, plainGet → c4, instObj → dc, findObj → de, OpenLaw → df, lookIn → dz, clsIn → dJ, cellsFrom_some → dN, looks_findIn → dW, callWith_K → ee, plainOver → eE, hasDictIn → eF
open List renaming mem_cons_self → ac, replicate → ae, mem_cons_of_mem → af, range → ah, mem_singleton → ai, mem_cons → aj, mem_filter → ak, length_map → aq, mem_range → au, getElem?_eq_getElem → av, mem_append → ay, contains_iff_mem → aC, size_toArray → aD, nodup_cons → aE, append_nil → aG, length_append → aH, append_assoc → aL, map_cons → aM, getElem?_map → aN, mem_append_right → aO, map_append → aP, pairwise_cons → aQ, all_eq_true → aT, getElem?_eq_some_iff → aU, getElem?_set_ne → aV, nodup_append → aW, getElem?_append_left → aY, mem_map → aZ, length_cons → bb, getElem?_append_right → be, replicate_succ → bf, length_filter_le → bg, nodup_nil → bh, filter_eq_nil_iff → bj, drop_eq_getElem_cons → bn, map_map → bq, mem_append_left → br, getElem?_replicate → bv, flatten_cons → bw, take_of_length_le → bz, filter_cons → bA, find?_cons → bC, length_range → bE, length_reverse → bG, drop_eq_nil_of_le → bI, perm_append_comm → bK, getElem?_set → bL, perm_ext_iff_of_nodup → bN, any_eq_true → bO, filter_eq_self → bQ, length_eq_zero_iff → bR, reverse_cons → bS, pairwise_map → bT, pairwise_lt_range → bU, getElem?_eq_none → bY, nodup_range → bZ, mem_flatten → b7, lookup_cons → b8, getElem_mem → b9, getElem_map → ca, drop_length → cb, reverse_reverse → cf, range_succ → cg, nil_append → cj, take_succ_cons → cq, length_pos_iff → cr, getD → cv, filter_append → cz, append_of_mem → cA, filter_congr → cE, any_cons → cG, mem_reverse → cH, cons_append → cI, getElem?_set_self → cJ, getElem?_toArray → cM, take_zero → cP, getElem?_of_mem → cQ, map_congr_left → cR, getElem?_range → cS, filterMap_cons → cT, map_take → cW, map_drop → cX, set_cons_zero → cZ, set_cons_succ → c3, reverse_perm → c6, map_nil → c7, any_map → c8, any_eq_false → c9, zipIdx_cons → di, mem_flatMap → dl, map_reverse → dm, length_take → dq, length_drop → dv, range' → dD, of_mem_zip → dE, mem_zipIdx_iff_getElem? → dF, length_set → dG, length_nil → dH, dropLast_concat_getLast → dI, mem_or_eq_of_mem_set → dQ, take_nil → dR, contains_eq_any_beq → dS, getElem?_cons_succ → dX, filter_cons_of_pos → dY, filter_cons_of_neg → dZ, map_set → d8, drop_of_length_le → d9, take_append_drop → el, length_singleton → eu, length_replicate → ez, getElem?_reverse → eD, pairwise_append → eJ, mem_of_getElem? → eK, flatMap_append → eM, ne_nil_of_mem → eP, mem_filterMap → eQ, map_replicate → eS, foldl → eT, find?_eq_none → eU
open Option renaming bind_some → am, bind_none → bx, map_some → bH, isSome_iff_exists → cD, isSome_map → cY, getD_some → c5, isSome_some → eG, getD_none → eO
open Nat renaming le_refl → ar, ne_of_lt → aF, lt_of_lt_of_le → aI, le_trans → aJ, lt_irrefl → bi, zero_le → bu, le_of_succ_le → bM, ne_of_gt → bP, le_of_lt → bV, lt_succ_of_lt → cF, min_eq_left → cL, le_of_ble_eq_true → cO, le_succ_of_le → dg, min_eq_right → dA, lt_succ_self → dB, not_lt → dO, mul_le_mul → dP, succ_pos → ef, succ_mul → eh, le_succ → eL
open Bool renaming false_ne_true → ax, and_eq_true_iff → az, and_eq_true → aK, not_eq_true → bp, false_eq_true → cB, false_and → dL, and_false → dM, or_false → dU
open Array renaming getElem?_eq_some_iff → aR, length_toList → ck, getElem?_eq_getElem → cC, getElem?_setIfInBounds_self_of_lt → cN, ext_getElem? → eN
open Int renaming zero_add → bW, toNat_natCast → dh
noncomputable abbrev PySem.W.Fast.tw13412710813283647035:=PySem.Challenge.pw_askorder_k45_whole_all_orders
theorem PySem.W.Fast.te13412710813283647035 : PySem.Challenge.pw_askorder_k45_whole_all_orders=PySem.W.Fast.tw13412710813283647035:=rfl
def PySem.W.Fast.tw2562220684795341437:=0
def PySem.W.Fast.tw15692047414029191048:=0
def PySem.W.Fast.tw6242997476643849615:=0
def PySem.W.Fast.tw429306714981052022:=0
def PySem.W.Fast.tw14159007859813954231:=0
def PySem.W.Fast.tw16186924197900250660:=0
def PySem.W.Fast.tw7674095428464942069:=0
def PySem.W.Fast.tw14346631304875873289:=0
def PySem.W.Fast.tw11460538424498195254:=0
def PySem.W.Fast.tw13884169201374724568:=0
def PySem.W.Fast.tw12519678831825785328:=0
namespace L2
open PySem PySem.Spec PyProof.Rows
abbrev Key:=Sum Int Str
def y0O : Key->Value->Bool
 | .inl k,v=>Value.isInt k v
 | .inr x,v=>Value.isStrOf x v
def keyH (w : World) : Key->Int
 | .inl k=>hashInt k
 | .inr x=>hashStr w x
theorem z0S : ∀ {k : Key} {v : Value},y0O k v=true->(∃ i t,k=Sum.inl i∧v=Value.int i t)∨(∃ x t,k=Sum.inr x∧v=Value.str x t)
 | .inl i,v,h=>by
  obtain ⟨t,e⟩:=Value.isInt_shape (k:=i) (v:=v) h
  exact .inl ⟨i,t,rfl,e⟩
 | .inr x,v,h=>by
  obtain ⟨t,e⟩:=Value.isStrOf_shape (x:=x) (v:=v) h
  exact .inr ⟨x,t,rfl,e⟩
theorem y4F (i : Int) (t : Tok) : y0O (.inl i) (.int i t)=true:=by simp [y0O,Value.isInt]
theorem y7F (x : Str) (t : Tok) : y0O (.inr x) (.str x t)=true:=by simp [y0O,Value.isStrOf]
theorem key_ll (a b : Int) : decide ((Sum.inl a : Key)=Sum.inl b)=(a == b):=by
 by_cases e : a=b
 ·subst e; simp
 ·have h : ¬ (Sum.inl a : Key)=Sum.inl b:=fun q=>e (Sum.inl.inj q)
  rw [decide_eq_false h]
  exact (beq_eq_false_iff_ne.mpr e).symm
theorem key_rr (a b : Str) : decide ((Sum.inr a : Key)=Sum.inr b)=decide (a=b):=by
 by_cases e : a=b
 ·subst e; simp
 ·have h : ¬ (Sum.inr a : Key)=Sum.inr b:=fun q=>e (Sum.inr.inj q)
  rw [decide_eq_false h,decide_eq_false e]
theorem key_lr (a : Int) (b : Str) : decide ((Sum.inl a : Key)=Sum.inr b)=false:=decide_eq_false (fun q=>nomatch q)
theorem key_rl (a : Str) (b : Int) : decide ((Sum.inr a : Key)=Sum.inl b)=false:=decide_eq_false (fun q=>nomatch q)
def z1p (prog : Program) (w : World) : PySem.KeyKind prog w Key where
 is:=y0O
 hash:=keyH w
 inj:=fun v a b ha hb=>by
  rcases z0S ha with ⟨i,t,rfl,rfl⟩ | ⟨x,t,rfl,rfl⟩
  ·rcases z0S hb with ⟨j,u,rfl,e⟩ | ⟨y,u,rfl,e⟩
   ·injection e with e1 _; rw [e1]
   ·exact nomatch e
  ·rcases z0S hb with ⟨j,u,rfl,e⟩ | ⟨y,u,rfl,e⟩
   ·exact nomatch e
   ·injection e with e1 _; rw [e1]
 byValue:=fun k v h=>by
  rcases z0S h with ⟨i,t,rfl,rfl⟩ | ⟨x,t,rfl,rfl⟩ <;> rfl
 pyHash:=fun hv h=>by
  rcases z0S hv with ⟨i,t,rfl,rfl⟩ | ⟨x,t,rfl,rfl⟩
  ·exact wpAny_pyHash_int h
  ·exact wpAny_pyHash_str h
 eqBool:=fun hu hv h=>by
  rcases z0S hu with ⟨i,t,rfl,rfl⟩ | ⟨x,t,rfl,rfl⟩
  ·rcases z0S hv with ⟨j,u,rfl,rfl⟩ | ⟨y,u,rfl,rfl⟩
   ·rw [key_ll] at h; exact wpAny_eqBool_int h
   ·rw [key_lr] at h; exact SeqAt.EqAt.int_str i t y u _ _ _ _ h
  ·rcases z0S hv with ⟨j,u,rfl,rfl⟩ | ⟨y,u,rfl,rfl⟩
   ·rw [key_rl] at h; exact SeqAt.EqAt.str_int x t j u _ _ _ _ h
   ·rw [key_rr] at h; exact wpAny_eqBool_str h
 «strs»:=fun k x t v h=>by
  rcases z0S h with ⟨i,u,rfl,e⟩ | ⟨y,u,rfl,e⟩
  ·exact nomatch e
  ·injection e with e1 _
   subst e1
   cases v <;> rfl
theorem y1x (prog : Program) (w : World) (i : Int) (t : Tok) : (z1p prog w).is (.inl i) (.int i t)=true:=y4F i t
theorem y0Q (prog : Program) (w : World) (x : Str) (t : Tok) : (z1p prog w).is (.inr x) (.str x t)=true:=y7F x t
end L2
namespace L2
open PySem PySem.Spec PyProof.Rows
inductive V where
 | non | bl (b : Bool) | int (i : Int) | str (x : Str) | byt (b : Array UInt8) | flt (b : UInt64) | ref (a : Addr) | ty (n : String)
 deriving DecidableEq
def RelV : V->Value->Prop
 | .non,u=>u=Value.none
 | .bl b,u=>u=Value.bool b
 | .int i,u=>∃ t,u=Value.int i t
 | .str x,u=>∃ t,u=Value.str x t
 | .byt b,u=>∃ t,u=Value.bytes b t
 | .flt b,u=>∃ t,u=Value.float b t
 | .ref a,u=>u=Value.ref a
 | .ty n,u=>u=Value.type n
abbrev Vals : List V->List Value->Prop:=Paired RelV
theorem Vals.length {xs : List V} {us : List Value} (r : Vals xs us) : xs.length=us.length:=Paired.length r
theorem Vals.get : ∀ {xs : List V} {us : List Value} {i : Nat} {x : V},Vals xs us->xs[i]? = some x->∃ u,us[i]? = some u∧RelV x u
 | _,_,_,_,.nil,e=>by simp at e
 | _,_,0,_,.cons r _,e=>by simp at e; subst e; exact ⟨_,rfl,r⟩
 | _,_,i + 1,x,.cons _ t,e=>by
  obtain ⟨u,h1,h2⟩:=Vals.get (i:=i) (x:=x) t (by simpa using e)
  exact ⟨u,by simpa using h1,h2⟩
theorem Vals.set {x : V} {u : Value} (r : RelV x u) : ∀ {xs : List V} {us : List Value} (i : Nat),Vals xs us->Vals (xs.set i x) (us.set i u)
 | _,_,_,.nil=>.nil
 | _,_,0,.cons _ t=>.cons r t
 | _,_,i + 1,.cons q t=>.cons q (Vals.set r i t)
theorem Vals.append : ∀ {xs ys : List V} {us ws : List Value},Vals xs us->Vals ys ws->Vals (xs ++ ys) (us ++ ws)
 | _,_,_,_,.nil,s=>s
 | _,_,_,_,.cons r t,s=>.cons r (Vals.append t s)
theorem Vals.take : ∀ {xs : List V} {us : List Value} (n : Nat),Vals xs us->Vals (xs.take n) (us.take n)
 | _,_,0,_=>.nil
 | _,_,_ + 1,.nil=>.nil
 | _,_,n + 1,.cons r t=>.cons r (Vals.take n t)
theorem Vals.drop : ∀ {xs : List V} {us : List Value} (n : Nat),Vals xs us->Vals (xs.drop n) (us.drop n)
 | _,_,0,r=>r
 | _,_,_ + 1,.nil=>.nil
 | _,_,n + 1,.cons _ t=>Vals.drop n t
def RelO : Option V->Option Value->Prop
 | some v,some u=>RelV v u
 | none,none=>True
 | _,_=>False
def KV {κ : Type} : List (κ × V)->List (κ × Value)->Prop:=Paired fun (p : κ × V) (q : κ × Value)=>p.1=q.1∧RelV p.2 q.2
def kV : Key->V
 | .inl i=>.int i
 | .inr x=>.str x
inductive HO where
 | lst (xs : List V)
 | tup (xs : List V)
 | dK (kvs : List (Key × V)) | dT (kvs : List (List Key × V))
 | set (S : Int->Bool) (n : Nat)
 | ins (C dx : Addr) (fs : List (Str × V))
 | own (x : Addr)
 | xd (fs : List (Str × V))
 | met (f x : Addr)
 | rng (lo hi : Int)
 | frz (o : Obj) (u : HO)
 | tbl (ps : Array Value)
 | ext (φ : Heap->Prop)
abbrev Hp:=Addr->Option HO
def upd (H : Hp) (a : Addr) (o : HO) : Hp:=fun b=>if b=a then some o else H b
theorem z0s {H : Hp} {a : Addr} {o : HO} : upd H a o a=some o:=by unfold upd; rw [if_pos rfl]
theorem z0A {H : Hp} {a b : Addr} {o : HO} (h : b≠a) : upd H a o b=H b:=by unfold upd; rw [if_neg h]
theorem ne_of {H : Hp} {a b : Addr} {o u : HO} (h : H a=some o) (h' : H b=some u) (d : o≠u) : a≠b:=by
 intro e; subst e; rw [h] at h'; exact d (Option.some.inj h')
theorem z1s {H : Hp} {a b : Addr} {o : HO} (h : H a=some o) (h' : H b=none) : a≠b:=by
 intro e; subst e; rw [h] at h'; cases h'
section
variable (P : Program) (w : World)
def TupN (h : Heap) (a : Addr) (items : Array Value) : Prop:=∃ o,h.get? a=some o∧(o.cls = .type "tuple" ∧ o.dict=none)∧∃ n,o.data = .seq items n
theorem TupN.is {h : Heap} {a : Addr} {items : Array Value} (x : TupN h a items) : IsTup h a items:=let ⟨o,e,c,n⟩:=x; ⟨o,e,c.1,n⟩
theorem TupN.lt {h : Heap} {a : Addr} {items : Array Value} (x : TupN h a items) : a < h.objs.size:=x.is.lt
theorem TupN.new (h : Heap) (items : Array Value) : TupN (h.push { cls:=.type "tuple",data:=.seq items }) h.objs.size items:=⟨_,Heap.get?_push_size _ rfl,⟨rfl,rfl⟩,_,rfl⟩
def ObjOk (H : Hp) (h : Heap) (a : Addr) : HO->Prop
 | .lst xs=>xs.length≤sizeLine∧∃ (its : List Value) (n : Nat),Vals xs its∧h.get? a=some { cls:=.type "list",data:=.seq its.toArray n }
 | .tup xs=>xs.length≤sizeLine∧∃ its : List Value,Vals xs its∧TupN h a its.toArray
 | .dK kvs=>kvs.length≤sizeLine∧(a == sysModules)=false∧∃ vs,KV kvs vs∧h.DictOf (z1p P w) a vs
 | .dT kvs=>kvs.length≤sizeLine∧(a == sysModules)=false∧∃ xs : List (List Key × Addr × Value),
   Paired (fun (p : List Key × V) (q : List Key × Addr × Value)=>p.1=q.1∧H q.2.1=some (.tup (p.1.map kV))∧RelV p.2 q.2.2) kvs xs ∧
   ∃ o es ep,h.get? a=some o∧o.ExactDict∧o.data = .dict es ep∧es.toList=xs.map (entryOfKey (tupleKind (z1p P w)))∧(xs.map (·.1)).Nodup
 | .set S n=>h.SetOf (intKind P w) a S n
 | .ins C dx fs=>H dx=some (.own a)∧fs.length≤1000∧dx≠a∧h.get? a=some (dc C dx) ∧
   ∃ mA,h.Ns1 dx mA∧(∀ f,RelO (fs.lookup f) (mA f))∧PySem.Within mA (fs.map (·.1))
 | .own _=>∃ o,h.get? a=some o
 | .xd fs=>∃ mA,h.Ns1 a mA∧∀ f,RelO (fs.lookup f) (mA f)
 | .rng lo hi=>∃ t u v,h.get? a=some { cls:=.type "range",data:=.fields #[.int lo t,.int hi u,.int 1 v] }
 | .frz o u=>h.get? a=some o∧ObjOk H h a u
 | .tbl ps=>h.get? a=some { cls:=.none,data:=.fields ps }
 | .met f x=>h.get? a=some (cU (.ref f) (.ref x))
 | .ext φ=>φ h∧(∃ o,h.get? a=some o)∧∀ h1 h2 : Heap,φ h1->(∀ o,h1.get? a=some o->h2.get? a=some o)->φ h2
def HOk (H : Hp) (h : Heap) : Prop:=∀ a o,H a=some o->ObjOk P w H h a o
end
section
variable {P : Program} {w : World} {H H' : Hp} {h h' : Heap} {a : Addr} {o : HO}
theorem ObjOk.lt (x : ObjOk P w H h a o) : a < h.objs.size:=by
 cases o with
 | lst xs=>obtain ⟨_,_,_,_,e⟩:=x; exact Heap.lt_size e
 | tup xs=>obtain ⟨_,_,_,p⟩:=x; exact p.lt
 | dK kvs=>obtain ⟨_,_,_,_,o,_,_,e,_⟩:=x; exact Heap.lt_size e
 | dT kvs=>obtain ⟨_,_,_,_,o,_,_,e,_⟩:=x; exact Heap.lt_size e
 | set S n=>obtain ⟨o,_,_,_,e,_⟩:=x; exact Heap.lt_size e
 | ins C dx fs=>obtain ⟨_,_,_,e,_⟩:=x; exact Heap.lt_size e
 | own y=>obtain ⟨_,e⟩:=x; exact Heap.lt_size e
 | xd fs=>obtain ⟨_,⟨_,_,_,e,_⟩,_⟩:=x; exact Heap.lt_size e
 | rng lo hi=>obtain ⟨_,_,_,e⟩:=x; exact Heap.lt_size e
 | frz ob u=>obtain ⟨e,_⟩:=x; exact Heap.lt_size e
 | tbl ps=>exact Heap.lt_size (show h.get? a=some _ from x)
 | met f y=>exact Heap.lt_size (show h.get? a=some _ from x)
 | ext φ=>obtain ⟨_,⟨_,e⟩,_⟩:=x; exact Heap.lt_size e
theorem Paired.mapP {α β : Type} {F G : α->β->Prop} : ∀ {l₁ : List α} {l₂ : List β},Paired F l₁ l₂->(∀ a b,F a b->G a b)->Paired G l₁ l₂
 | _,_,.nil,_=>.nil
 | _,_,.cons r t,f=>.cons (f _ _ r) (Paired.mapP t f)
theorem ObjOk.stay (x : ObjOk P w H h a o) (k : ∀ b u,(b=a∨H b=some (.own a))->h.get? b=some u->h'.get? b=some u)
  (ho : ∀ b,H b=some (.own a)->H' b=some (.own a)) (ht : ∀ b xs,H b=some (.tup xs)->H' b=some (.tup xs)) : ObjOk P w H' h' a o:=by
 induction o with
 | lst xs=>obtain ⟨z,its,n,r,e⟩:=x; exact ⟨z,its,n,r,k _ _ (.inl rfl) e⟩
 | tup xs=>obtain ⟨z,its,r,ob,e,c⟩:=x; exact ⟨z,its,r,ob,k _ _ (.inl rfl) e,c⟩
 | dK kvs=>obtain ⟨z,y,vs,r,ob,es,ep,e,c⟩:=x; exact ⟨z,y,vs,r,ob,es,ep,k _ _ (.inl rfl) e,c⟩
 | dT kvs=>
  obtain ⟨z,y,xs,r,ob,es,ep,e,c⟩:=x
  exact ⟨z,y,xs,Paired.mapP r fun p q z=>⟨z.1,ht _ _ z.2.1,z.2.2⟩,ob,es,ep,k _ _ (.inl rfl) e,c⟩
 | set S n=>obtain ⟨ob,es,ep,t,e,c⟩:=x; exact ⟨ob,es,ep,t,k _ _ (.inl rfl) e,c⟩
 | ins C dx fs=>
  obtain ⟨d,z,ne,e,mA,⟨od,es,ep,e2,c⟩,r⟩:=x
  exact ⟨ho _ d,z,ne,k _ _ (.inl rfl) e,mA,⟨od,es,ep,k _ _ (.inr d) e2,c⟩,r⟩
 | own y=>obtain ⟨ob,e⟩:=x; exact ⟨ob,k _ _ (.inl rfl) e⟩
 | xd fs=>obtain ⟨mA,⟨od,es,ep,e,c⟩,r⟩:=x; exact ⟨mA,⟨od,es,ep,k _ _ (.inl rfl) e,c⟩,r⟩
 | rng lo hi=>obtain ⟨t,u,v,e⟩:=x; exact ⟨t,u,v,k _ _ (.inl rfl) e⟩
 | frz ob u ih=>obtain ⟨e,q⟩:=x; exact ⟨k _ _ (.inl rfl) e,ih q⟩
 | tbl ps=>
  have e : h.get? a=some { cls:=.none,data:=.fields ps }:=x
  show h'.get? a=some { cls:=.none,data:=.fields ps }
  exact k a _ (.inl rfl) e
 | met f y=>
  have e : h.get? a=some (cU (.ref f) (.ref y)):=x
  show h'.get? a=some (cU (.ref f) (.ref y))
  exact k a _ (.inl rfl) e
 | ext φ=>obtain ⟨p,⟨o,e⟩,st⟩:=x; exact ⟨st _ _ p fun o q=>k _ _ (.inl rfl) q,⟨o,k _ _ (.inl rfl) e⟩,st⟩
theorem HOk.lt (x : HOk P w H h) (e : H a=some o) : a < h.objs.size:=(x a o e).lt
theorem HOk.fresh (x : HOk P w H h) (e : h.objs.size≤a) : H a=none:=by
 cases q : H a with
 | none=>rfl
 | some u=>exact absurd (aI (x.lt q) e) (bi _)
theorem HOk.kept (x : HOk P w H h) (k : ∀ b u,h.get? b=some u->h'.get? b=some u) : HOk P w H h':=fun a o e=>
 (x a o e).stay (fun b u _ q=>k b u q) (fun _ q=>q) fun _ _ q=>q
theorem HOk.laid (x : HOk P w H h) (k : ∀ b u,h.get? b=some u->h'.get? b=some u) (hp : h.objs.size≤a) (new : ObjOk P w (upd H a o) h' a o) : HOk P w (upd H a o) h':=fun b u e=>by
 have hn:=x.fresh hp
 by_cases hb : b=a
 ·subst hb; rw [z0s] at e; cases e; exact new
 ·rw [z0A hb] at e
  exact (x b u e).stay (fun c v _ q=>k c v q) (fun c q=>by rw [z0A (z1s q hn)]; exact q) fun c xs q=>by rw [z0A (z1s q hn)]; exact q
end
def Rd (H : Hp) (a : Addr) (u : HO) : Prop:=H a=some u∨∃ o,H a=some (.frz o u)
theorem Rd.ok {P : Program} {w : World} {H : Hp} {h : Heap} {a : Addr} {u : HO} (r : Rd H a u) (x : HOk P w H h) : ObjOk P w H h a u:=by
 rcases r with r | ⟨o,r⟩
 ·exact x a u r
 ·obtain ⟨_,q⟩:=x a _ r
  exact q
def Mut : Option HO->Prop
 | some (.lst _)=>True
 | some (.dK _)=>True
 | some (.dT _)=>True
 | some (.set _ _)=>True
 | some (.ins _ _ _)=>True
 | some (.ext _)=>True
 | _=>False
section
variable {P : Program} {w : World} {H : Hp} {h h' : Heap} {x e : Addr} {o' : HO}
theorem HOk.write (ok : HOk P w H h) (mu : Mut (H x)) (he : e=x∨H e=some (.own x)) (k : ∀ b u,b≠e->h.get? b=some u->h'.get? b=some u) (heo : ∃ u,h'.get? e=some u)
  (new : ObjOk P w (upd H x o') h' x o') : HOk P w (upd H x o') h':=fun b u q=>by
 have nown : ∀ c y,H c=some (.own y)->c≠x:=fun c y r z=>by subst z; rw [r] at mu; exact mu
 have ntup : ∀ c xs,H c=some (.tup xs)->c≠x:=fun c xs r z=>by subst z; rw [r] at mu; exact mu
 by_cases hb : b=x
 ·subst hb; rw [z0s] at q; cases q; exact new
 ·rw [z0A hb] at q
  by_cases hbe : b=e
  ·have q' : H b=some (.own x):=by
    rcases he with z | z
    ·exact absurd (hbe.trans z) hb
    ·rw [hbe]; exact z
   rw [q] at q'; cases q'
   obtain ⟨v,hv⟩:=heo
   exact ⟨v,by rw [hbe]; exact hv⟩
  ·refine (ok b u q).stay (fun c v hc r=>k c v ?_ r) (fun c r=>by rw [z0A (nown c b r)]; exact r) fun c xs r=>by rw [z0A (ntup c xs r)]; exact r
   rcases hc with rfl | hc
   ·exact hbe
   ·rintro rfl
    rcases he with z | z
    ·exact nown c b hc z
    ·rw [hc] at z; cases z; exact hb rfl
end
structure Un (fs ex : List Addr) (H H' : Hp) (h h' : Heap) : Prop where
 keep : ∀ b o,h.get? b=some o->H b=none->b ∉ fs->b ∉ ex->h'.get? b=some o
 slot : ∀ b o,h.get? b=some o->H b=none->b∈fs->b ∉ ex->∃ sl,h'.get? b=some { o with slots:=sl }
 free : ∀ b o,h.get? b=some o->H b=none->b ∉ ex->H' b=none
 there : ∀ b o,h.get? b=some o->b ∉ ex->∃ o',h'.get? b=some o'
 tups : ∀ b xs,H b=some (.tup xs)->H' b=some (.tup xs)
 frzs : ∀ b o u,H b=some (.frz o u)->H' b=some (.frz o u)
 tbls : ∀ b ps,H b=some (.tbl ps)->∃ more,H' b=some (.tbl (ps ++ more))
section
variable {fs fs' ex ex' : List Addr} {H H1 H2 : Hp} {h h1 h2 h' : Heap} {a x e : Addr} {o : HO}
theorem Un.any (u : Un fs ex H H1 h h1) {b : Addr} {ob : Obj} (q : h.get? b=some ob) (n : H b=none) (hx : b ∉ ex) : ∃ sl,h1.get? b=some { ob with slots:=sl }:=by
 by_cases hb : b∈fs
 ·exact u.slot b ob q n hb hx
 ·exact ⟨ob.slots,u.keep b ob q n hb hx⟩
theorem Un.kept (k : ∀ b u,h.get? b=some u->h'.get? b=some u) : Un fs ex H H h h':=
 ⟨fun b ob q _ _ _=>k b ob q,fun b ob q _ _ _=>⟨ob.slots,k b ob q⟩,fun _ _ _ n _=>n,fun b ob q _=>⟨ob,k b ob q⟩,fun _ _ q=>q,fun _ _ _ q=>q,fun _ ps q=>⟨#[],by rw [q]; simp⟩⟩
theorem Un.refl : Un fs ex H H h h:=Un.kept fun _ _ q=>q
theorem Un.laid (k : ∀ b u,h.get? b=some u->h'.get? b=some u) (hp : h.objs.size≤a) (hn : H a=none) : Un fs ex H (upd H a o) h h' where
 keep:=fun b u q _ _ _=>k b u q
 slot:=fun b u q _ _ _=>⟨u.slots,k b u q⟩
 free:=fun b u q n _=>by rw [z0A (aF (aI (Heap.lt_size q) hp))]; exact n
 there:=fun b u q _=>⟨u,k b u q⟩
 tups:=fun b xs q=>by rw [z0A (z1s q hn)]; exact q
 frzs:=fun b u xs q=>by rw [z0A (z1s q hn)]; exact q
 tbls:=fun b ps q=>⟨#[],by rw [z0A (z1s q hn),q]; simp⟩
theorem Un.write (mu : Mut (H x)) (he : e=x∨H e=some (.own x)) (k : ∀ b u,b≠e->h.get? b=some u->h'.get? b=some u) (heo : ∃ u,h'.get? e=some u) : Un fs ex H (upd H x o) h h':=by
 have hx : ∀ b,H b=none->b≠x:=fun b n z=>by subst z; rw [n] at mu; exact mu
 have hb : ∀ b,H b=none->b≠e:=fun b n z=>by
  subst z
  rcases he with r | r
  ·exact hx b n r
  ·rw [n] at r; cases r
 have hm : ∀ b u,H b=some u->¬ Mut (some u)->b≠x:=fun b u q nm z=>by subst z; rw [q] at mu; exact nm mu
 refine ⟨fun b u q n _ _=>k b u (hb b n) q,fun b u q n _ _=>⟨u.slots,k b u (hb b n) q⟩,fun b u q n _=>by rw [z0A (hx b n)]; exact n,fun b u q _=>?_,
  fun b xs q=>by rw [z0A (hm b _ q fun z=>z)]; exact q,fun b u xs q=>by rw [z0A (hm b _ q fun z=>z)]; exact q,fun b ps q=>⟨#[],by rw [z0A (hm b _ q fun z=>z),q]; simp⟩⟩
 by_cases hbe : b=e
 ·subst hbe; exact heo
 ·exact ⟨u,k b u hbe q⟩
end
def trk (h : Heap) (H : Hp) : List Addr:=(ah h.objs.size).filter fun a=>(H a).isSome
def y8a (h : Heap) (H : Hp) : Heap:=PySem.W.hideAll h (trk h H)
theorem y5J (h : Heap) (H : Hp) : (y8a h H).objs.size=h.objs.size:=PySem.W.hideAll_size _ _
theorem y9z {h : Heap} {H : Hp} {b : Addr} {o : Obj} (e : h.get? b=some o) (n : H b=none) : (y8a h H).get? b=some o:=
 PySem.W.hideAll_get _ e fun hm=>by
  have q : (H b).isSome=true:=(ak.mp hm).2
  rw [n] at q; simp at q
theorem of_hidT {h : Heap} {H : Hp} {b : Addr} {o : Obj} (e : (y8a h H).get? b=some o) : h.get? b=some o∧H b=none:=by
 have e' : h.get? b=some o:=PySem.W.of_hideAll (trk h H) e
 refine ⟨e',?_⟩
 cases q : H b with
 | none=>rfl
 | some x=>
  have hm : b∈trk h H:=ak.mpr ⟨au.mpr (Heap.lt_size e'),by simp [q]⟩
  have z : (y8a h H).get? b=none:=PySem.W.hideAll_none (trk h H) hm
  rw [z] at e; cases e
def allNews (g h : Heap) (L : Addr) : List (Addr × Obj):=(ah h.objs.size).filterMap fun a=>if a=L∨(g.get? a).isSome=true then none else (h.get? a).map fun o=>(a,o)
def rest (g h : Heap) (L d : Addr) : List (Addr × Obj):=(allNews g h L).filter fun p=>decide (p.1≠d)
end L2
namespace L2
open PySem PySem.Spec PyProof.Rows
structure Mod (K : aa) (mg : Str->Option Value) (base : Heap) : Prop where
 kin : K.In base
 glob : base.Ns mainGlobals mg
 blt : ∃ mb,base.Ns builtinsNs mb∧∀ x : Str,x ≠ "__name__" → mb x=bootBuiltins x
 nolimit : base.NoLimit
structure Cx where
 prog : Program
 w : World
 K : aa
 mg : Str->Option Value
 base : Heap
 A : Around
 N : List Str
 s₀ : Shared
 H₀ : Hp
 env : Env
 outer : List Env
 stack : List Env
 ex : List Addr
 fn : Str->Bool
 calm : Bool
 pn : List (Addr × Obj)
 xe : Value->Shared->Prop
def frs (l : List Env) : List Addr:=l.filterMap (·.frame)
abbrev Cx.fs (X : Cx) : List Addr:=frs X.outer
def Vis (sc : Scope) (x : Str) : Prop:=sc.names.lookup x=some .local∨sc.names.lookup x=some .cell∨sc.names.lookup x=some .free
def Loc (sc : Scope) (x : Str) : Prop:=sc.names.lookup x=some .local∨sc.names.lookup x=some .cell
def Look (env : Env) (h : Heap) (m : Str->Option Value) (x : Str) (u : Value) : Prop:=
 (env.kindOf x=some .local∧m x=some u)∨((env.kindOf x=some .cell∨env.kindOf x=some .free)∧∃ c,env.cells.lookup x=some c∧h.IsCell c (some u))
structure Cx.Ok (X : Cx) : Prop where
 mod : Mod X.K X.mg X.base
 kind : X.env.scope.kind = .function
 glob : X.env.globals=mainGlobals
 blt : X.env.builtins=builtinsNs
 above : X.s₀.heap.objs.size≤X.env.locals
 inj : ∀ x y c,X.env.cells.lookup x=some c->X.env.cells.lookup y=some c->x=y
 has : ∀ x,(X.env.kindOf x=some .cell∨X.env.kindOf x=some .free)->∃ c,X.env.cells.lookup x=some c
 cab : ∀ x c,X.fn x=true->X.env.cells.lookup x=some c->X.s₀.heap.objs.size≤c
 hd : X.calm=true->X.A.handled=none
 frames : X.A.frames=some X.stack
 stk : X.stack=X.outer∨(X.stack=X.env :: X.outer∧X.env.frame=some X.env.locals)
 exf : ∀ b∈X.ex,b≠X.env.locals∧∀ x c,X.env.cells.lookup x=some c->c≠b
 bs : ∀ b o,X.base.get? b=some o->X.s₀.heap.get? b=some o∧X.H₀ b=none
 bsz : X.base.objs.size≤X.s₀.heap.objs.size
 noex : ∀ b o,X.base.get? b=some o->b ∉ X.ex
 exfs : ∀ b∈X.ex,b ∉ X.fs
 funs : X.s₀.heap.FunFrames X.base X.outer
 frf : ∀ b∈X.fs,X.H₀ b=none
structure Inv (X : Cx) (pins : List (Addr × Obj)) (σ : List (Option V)) (H : Hp) (s : Shared) : Prop where
 ok : X.Ok
 os : s.os=X.s₀.os
 bare : AllBare s.gens
 base : Un X.fs X.ex X.H₀ H X.s₀.heap s.heap
 loc : ∃ m,s.heap.Ns X.env.locals m∧∀ (i : Nat) (x : Str) (v : V),X.N[i]? = some x->σ[i]? = some (some v)->Vis X.env.scope x->∃ u,RelV v u∧Look X.env s.heap m x u
 cell : ∀ x c,X.env.cells.lookup x=some c->∃ v,s.heap.IsCell c v
 free : H X.env.locals=none
 freeC : ∀ x c,X.env.cells.lookup x=some c->H c=none
 pin : ∀ p∈X.pn ++ pins,s.heap.get? p.1=some p.2∧H p.1=none∧p.1≠X.env.locals∧p.1 ∉ X.fs∧∀ v,p.2.data≠.cell v
 hok : HOk X.prog X.w H s.heap
 len : σ.length=X.N.length
section
variable {X : Cx} {pins : List (Addr × Obj)} {σ : List (Option V)} {H H' : Hp} {s : Shared} {h' : Heap}
theorem Cx.Ok.nofr (ok : X.Ok) {b : Addr} {o : Obj} (e : X.base.get? b=some o) : b ∉ X.fs:=fun hb=>by
 have:=(ok.funs.mem hb).1
 rw [e] at this; cases this
theorem Inv.bs (I : Inv X pins σ H s) : ∀ b o,X.base.get? b=some o->s.heap.get? b=some o∧H b=none:=fun b o e=>
 ⟨I.base.keep b o (I.ok.bs b o e).1 (I.ok.bs b o e).2 (I.ok.nofr e) (I.ok.noex b o e),I.base.free b o (I.ok.bs b o e).1 (I.ok.bs b o e).2 (I.ok.noex b o e)⟩
theorem Inv.bk (I : Inv X pins σ H s) : ∀ b o,X.base.get? b=some o->s.heap.get? b=some o:=fun b o e=>(I.bs b o e).1
theorem Inv.mod (I : Inv X pins σ H s) : Mod X.K X.mg X.base:=I.ok.mod
theorem Inv.kIn (I : Inv X pins σ H s) : X.K.In s.heap:=I.ok.mod.kin.keeps I.bk
theorem Inv.lt (I : Inv X pins σ H s) : X.env.locals < s.heap.objs.size:=let ⟨_,hn,_⟩:=I.loc; hn.lt
theorem Inv.sz (I : Inv X pins σ H s) : X.s₀.heap.objs.size≤s.heap.objs.size:=aJ I.ok.above (bV I.lt)
theorem Inv.nofs (I : Inv X pins σ H s) {a : Addr} (h : s.heap.objs.size≤a) : a ∉ X.fs:=fun hb=>by
 obtain ⟨_,o,ho,_⟩:=I.ok.funs.mem hb
 exact absurd (aI (Heap.lt_size ho) (aJ I.sz h)) (bi _)
theorem Inv.cne (I : Inv X pins σ H s) : ∀ x c,X.env.cells.lookup x=some c->c≠X.env.locals:=fun x c e z=>by
 obtain ⟨v,o,ho,hd⟩:=I.cell x c e
 obtain ⟨m,⟨o',es,ep,ho',hd',_⟩,_⟩:=I.loc
 rw [z,ho'] at ho; cases ho; rw [hd'] at hd; cases hd
theorem Inv.funs (I : Inv X pins σ H s) : s.heap.FunFrames X.base X.outer:=by
 have all : ∀ (l : List Env),(∀ b∈frs l,b∈X.fs)->X.s₀.heap.FunFrames X.base l->s.heap.FunFrames X.base l:=by
  intro l
  induction l with
  | nil=>intro _ _; trivial
  | cons env r ih=>
   intro hs hl
   obtain ⟨hk,⟨L,o,hf,hn,ho,hd⟩,hr⟩:=hl
   have hL : L∈X.fs:=hs L (by unfold frs; rw [cT,hf]; exact ac)
   obtain ⟨sl,e⟩:=I.base.slot L o ho (I.ok.frf L hL) hL fun z=>I.ok.exfs L z hL
   exact ⟨hk,⟨L,_,hf,hn,e,hd⟩,ih (fun b hb=>hs b (by unfold frs; rw [cT,hf]; exact af _ hb)) hr⟩
 exact all X.outer (fun _ hb=>hb) I.ok.funs
theorem Inv.stack (I : Inv X pins σ H s) : s.heap.FunFrames X.base X.stack:=by
 rcases I.ok.stk with e | ⟨e,hf⟩
 ·rw [e]; exact I.funs
 ·rw [e]
  obtain ⟨m,hn,_⟩:=I.loc
  refine .cons (by rw [I.ok.kind]; decide) hf hn ?_ I.funs
  exact Heap.get?_none_of_le (aJ I.ok.bsz I.ok.above)
theorem Inv.stkSub (I : Inv X pins σ H s) : ∀ b∈frs X.stack,b∈X.env.locals :: X.fs:=fun b hb=>by
 rcases I.ok.stk with e | ⟨e,hf⟩
 ·rw [e] at hb; exact af _ hb
 ·rw [e] at hb
  unfold frs at hb
  rw [cT,hf] at hb
  exact hb
theorem Inv.stkFree (I : Inv X pins σ H s) : ∀ b∈frs X.stack,H b=none:=fun b hb=>by
 rcases aj.mp (I.stkSub b hb) with e | hb
 ·rw [e]; exact I.free
 ·obtain ⟨_,o,ho,_⟩:=I.ok.funs.mem hb
  exact I.base.free b o ho (I.ok.frf b hb) fun z=>I.ok.exfs b z hb
theorem Inv.step {g' : Array GenState} {t' : Nat} {d' : Drawn} {ch : List Addr} (I : Inv X pins σ H s)
  (hch : ∀ b∈ch,(b∈X.ex∨X.s₀.heap.objs.size≤b)∧b≠X.env.locals∧(∀ x c,X.env.cells.lookup x=some c->c≠b)∧∀ p∈X.pn ++ pins,p.1≠b)
  (keep : ∀ b o,b≠X.env.locals->b ∉ X.fs->b ∉ ch->s.heap.get? b=some o->H b=none->h'.get? b=some o)
  (slot : ∀ b o,b≠X.env.locals->b∈X.fs->b ∉ ch->s.heap.get? b=some o->H b=none->∃ sl,h'.get? b=some { o with slots:=sl }) (free : ∀ b o,b ∉ ch->s.heap.get? b=some o->H b=none->H' b=none)
  (there : ∀ b o,b ∉ ch->s.heap.get? b=some o->∃ o',h'.get? b=some o')
  (tups : ∀ b xs,H b=some (.tup xs)->H' b=some (.tup xs)) (frzs : ∀ b o u,H b=some (.frz o u)->H' b=some (.frz o u)) (tbls : ∀ b ps,H b=some (.tbl ps)->∃ more,H' b=some (.tbl (ps ++ more)))
  (ns : ∀ m,s.heap.Ns X.env.locals m->h'.Ns X.env.locals m) (hok : HOk X.prog X.w H' h') (hg : AllBare g') :
  Inv X pins σ H' { s with heap:=h',gens:=g',drawn:=d',toks:=t' }:=by
 have neL : ∀ b o,X.s₀.heap.get? b=some o->b≠X.env.locals:=fun b o e=>aF (aI (Heap.lt_size e) I.ok.above)
 have neC : ∀ b o,X.s₀.heap.get? b=some o->b ∉ X.ex->b ∉ ch:=fun b o e hx hb=>by
  rcases (hch b hb).1 with z | z
  ·exact hx z
  ·exact absurd (aI (Heap.lt_size e) z) (bi _)
 have cellK : ∀ x c,X.env.cells.lookup x=some c->∀ v,s.heap.IsCell c v->h'.IsCell c v:=fun x c e v ⟨o,ho,hd⟩=>by
  have nch : c ∉ ch:=fun z=>(hch c z).2.2.1 x c e rfl
  by_cases hc : c∈X.fs
  ·obtain ⟨sl,q⟩:=slot c o (I.cne x c e) hc nch ho (I.freeC x c e)
   exact ⟨_,q,hd⟩
  ·exact ⟨o,keep c o (I.cne x c e) hc nch ho (I.freeC x c e),hd⟩
 refine ⟨I.ok,I.os,hg,⟨fun b o e n hb hx=>?_,fun b o e n hb hx=>?_,fun b o e n hx=>?_,fun b o e hx=>?_,fun b xs e=>tups b xs (I.base.tups b xs e),fun b o xs e=>frzs b o xs (I.base.frzs b o xs e),fun b ps e=>?_⟩,?_,fun x c e=>?_,?_,fun x c e=>?_,fun p hp=>?_,hok,I.len⟩
 ·exact keep b o (neL b o e) hb (neC b o e hx) (I.base.keep b o e n hb hx) (I.base.free b o e n hx)
 ·obtain ⟨sl,e1⟩:=I.base.slot b o e n hb hx
  obtain ⟨sl',e2⟩:=slot b _ (neL b o e) hb (neC b o e hx) e1 (I.base.free b o e n hx)
  exact ⟨sl',e2⟩
 ·obtain ⟨o',e1⟩:=I.base.there b o e hx
  exact free b o' (neC b o e hx) e1 (I.base.free b o e n hx)
 ·obtain ⟨o',e1⟩:=I.base.there b o e hx
  exact there b o' (neC b o e hx) e1
 ·obtain ⟨m1,e1⟩:=I.base.tbls b ps e
  obtain ⟨m2,e2⟩:=tbls b _ e1
  exact ⟨m1 ++ m2,by rw [e2,Array.append_assoc]⟩
 ·obtain ⟨m,hn,hl⟩:=I.loc
  refine ⟨m,ns m hn,fun i x v e1 e2 e3=>?_⟩
  obtain ⟨u,r,l⟩:=hl i x v e1 e2 e3
  refine ⟨u,r,?_⟩
  rcases l with l | ⟨k,c,e,z⟩
  ·exact .inl l
  ·exact .inr ⟨k,c,e,cellK x c e _ z⟩
 ·obtain ⟨v,z⟩:=I.cell x c e
  exact ⟨v,cellK x c e v z⟩
 ·obtain ⟨m,⟨o,_,_,ho,_⟩,_⟩:=I.loc
  exact free _ o (fun z=>(hch _ z).2.1 rfl) ho I.free
 ·obtain ⟨v,o,ho,hd⟩:=I.cell x c e
  exact free c o (fun z=>(hch c z).2.2.1 x c e rfl) ho (I.freeC x c e)
 ·obtain ⟨e,n,ne,nf,d⟩:=I.pin p hp
  have nch : p.1 ∉ ch:=fun z=>(hch p.1 z).2.2.2 p hp rfl
  exact ⟨keep p.1 p.2 ne nf nch e n,free p.1 p.2 nch e n,ne,nf,d⟩
theorem Inv.un {t' : Nat} (I : Inv X pins σ H s) (u : Un X.fs [] H H' s.heap h') (hok : HOk X.prog X.w H' h') : Inv X pins σ H' { s with heap:=h',toks:=t' }:=by
 obtain ⟨m,⟨o,es,ep,ho,r⟩,_⟩:=id I.loc
 obtain ⟨sl,hL⟩:=u.any ho I.free (by simp)
 exact I.step (g':=s.gens) (d':=s.drawn) (ch:=[]) (fun _ z=>nomatch z) (fun b o _ hb _ e n=>u.keep b o e n hb (by simp)) (fun b o _ hb _ e n=>u.slot b o e n hb (by simp)) (fun b o _ e n=>u.free b o e n (by simp)) (fun b o _ e=>u.there b o e (by simp)) u.tups u.frzs u.tbls (fun m' hm=>by
  obtain ⟨o',es',ep',ho',r'⟩:=hm
  rw [ho] at ho'; cases ho'
  exact ⟨_,es',ep',hL,r'⟩) hok I.bare
theorem Inv.call {g' : Array GenState} {t' : Nat} {d' : Drawn} {ch : List Addr} (I : Inv X pins σ H s) (u : Un (frs X.stack) ch H H' s.heap h') (hok : HOk X.prog X.w H' h') (hg : AllBare g')
  (hch : ∀ b∈ch,(b∈X.ex∨X.s₀.heap.objs.size≤b)∧b≠X.env.locals∧(∀ x c,X.env.cells.lookup x=some c->c≠b)∧∀ p∈X.pn ++ pins,p.1≠b) :
  Inv X pins σ H' { s with heap:=h',gens:=g',drawn:=d',toks:=t' }:=by
 obtain ⟨m,⟨o,es,ep,ho,r⟩,_⟩:=id I.loc
 obtain ⟨sl,hL⟩:=u.any ho I.free fun z=>(hch _ z).2.1 rfl
 exact I.step (ch:=ch) hch (fun b o hL hb hc e n=>u.keep b o e n (fun z=>(aj.mp (I.stkSub b z)).elim hL hb) hc) (fun b o _ _ hc e n=>u.any e n hc) (fun b o hc e n=>u.free b o e n hc) (fun b o hc e=>u.there b o e hc) u.tups u.frzs u.tbls (fun m' hm=>by
  obtain ⟨o',es',ep',ho',r'⟩:=hm
  rw [ho] at ho'; cases ho'
  exact ⟨_,es',ep',hL,r'⟩) hok hg
theorem Inv.turned {t' : Nat} {it : Addr} (I : Inv X pins σ H s) (k : ∀ b o,b≠it->s.heap.get? b=some o->h'.get? b=some o) (hn : H it=none) (hL : it≠X.env.locals)
  (h1 : it∈X.ex∨X.s₀.heap.objs.size≤it) (h2 : ∀ x c,X.env.cells.lookup x=some c->c≠it) (h3 : ∀ p∈X.pn ++ pins,p.1≠it) : Inv X pins σ H { s with heap:=h',toks:=t' }:=by
 have nit : ∀ b u,H b=some u->b≠it:=fun b u e z=>by rw [z,hn] at e; cases e
 refine I.step (g':=s.gens) (d':=s.drawn) (ch:=[it]) (fun b hb=>?_) (fun b o _ _ hc e _=>k b o (fun z=>hc (by simp [z])) e) (fun b o _ _ hc e _=>⟨o.slots,k b o (fun z=>hc (by simp [z])) e⟩) (fun _ _ _ _ n=>n)
  (fun b o hc e=>⟨o,k b o (fun z=>hc (by simp [z])) e⟩) (fun _ _ e=>e) (fun _ _ _ e=>e) (fun b ps e=>⟨#[],by rw [e]; simp⟩) (fun m hm=>?_) (fun b u e=>?_) I.bare
 ·have e : b=it:=by simpa using hb
  subst e
  exact ⟨h1,hL,h2,h3⟩
 ·obtain ⟨o,es,ep,ho,r⟩:=hm
  exact ⟨o,es,ep,k _ o (Ne.symm hL) ho,r⟩
 ·refine (I.hok b u e).stay (fun c v hc q=>k c v ?_ q) (fun _ q=>q) fun _ _ q=>q
  rcases hc with z | z
  ·rw [z]; exact nit b u e
  ·exact nit c _ z
theorem Inv.tok (I : Inv X pins σ H s) (t : Nat) : Inv X pins σ H { s with toks:=t }:=I.un (h':=s.heap) (t':=t) Un.refl I.hok
theorem Inv.kept {t' : Nat} (I : Inv X pins σ H s) (k : ∀ b u,s.heap.get? b=some u->h'.get? b=some u) : Inv X pins σ H { s with heap:=h',toks:=t' }:=I.un (Un.kept k) (I.hok.kept k)
theorem Inv.laid {a : Addr} {o : HO} {t' : Nat} (I : Inv X pins σ H s) (k : ∀ b u,s.heap.get? b=some u->h'.get? b=some u) (hp : s.heap.objs.size≤a) (new : ObjOk X.prog X.w (upd H a o) h' a o) :
  Inv X pins σ (upd H a o) { s with heap:=h',toks:=t' }:=I.un (Un.laid k hp (I.hok.fresh hp)) (I.hok.laid k hp new)
theorem Inv.write {x e : Addr} {o : HO} {t' : Nat} (I : Inv X pins σ H s) (mu : Mut (H x)) (he : e=x∨H e=some (.own x)) (k : ∀ b u,b≠e->s.heap.get? b=some u->h'.get? b=some u) (heo : ∃ u,h'.get? e=some u)
  (new : ObjOk X.prog X.w (upd H x o) h' x o) : Inv X pins σ (upd H x o) { s with heap:=h',toks:=t' }:=I.un (Un.write mu he k heo) (I.hok.write mu he k heo new)
theorem Inv.pins_of {pins' : List (Addr × Obj)} (I : Inv X pins σ H s) (h : ∀ p∈pins',s.heap.get? p.1=some p.2∧H p.1=none∧p.1≠X.env.locals∧p.1 ∉ X.fs∧∀ v,p.2.data≠.cell v) : Inv X pins' σ H s:=
 ⟨I.ok,I.os,I.bare,I.base,I.loc,I.cell,I.free,I.freeC,fun p hp=>(ay.mp hp).elim (fun z=>I.pin p (br _ z)) (h p),I.hok,I.len⟩
theorem z8s {N : List Str} (hN : N.Nodup) {i j : Nat} {x : Str} (a : N[i]? = some x) (b : N[j]? = some x) : i=j:=by
 obtain ⟨h1,e1⟩:=aU.mp a
 obtain ⟨h2,e2⟩:=aU.mp b
 exact (List.getElem_inj hN).mp (e1.trans e2.symm)
theorem z7k {M : Model} {A : Around} {E : Value->Shared->Prop} {i : Nat} {x : Str} {v : V} {u : Value} {Q : Unit->Shared->Prop} (I : Inv X pins σ H s) (hN : X.N.Nodup) (hi : X.N[i]? = some x) (hx : Loc X.env.scope x) (r : RelV v u)
  (h : ∀ s',Inv X pins (σ.set i (some v)) H s'->(∃ a,Heap.SameBut a s.heap s'.heap∧(a=X.env.locals∨X.env.cells.lookup x=some a))->Q () s') (hf : X.fn x=true∨X.env.scope.names.lookup x=some .local:=by first | exact .inl rfl | exact .inr rfl | assumption) : wpAny M A (storeName X.env x u) Q E s:=by
 obtain ⟨m,hn,hl⟩:=id I.loc
 have hcls : (X.env.scope.kind == .class || (X.env.scope.kind == .module && X.env.locals != X.env.globals))=false:=by rw [I.ok.kind]; rfl
 have hiσ : i < σ.length:=by rw [I.len]; exact (aU.mp hi).1
 have cne:=I.cne
 have tracked : ∀ {a : Addr} {h' : Heap},(∃ o,s.heap.get? a=some o∧H a=none)->Heap.SameBut a s.heap h'->HOk X.prog X.w H h':=fun {a h'} ha hs b ob e=>by
  obtain ⟨_,_,hfree⟩:=ha
  refine (I.hok b ob e).stay (fun c w' hc q=>(hs.2 c ?_).trans q) (fun _ q=>q) fun _ _ q=>q
  rintro rfl
  rcases hc with rfl | hc
  ·rw [hfree] at e; cases e
  ·rw [hfree] at hc; cases hc
 rcases hx with hk | hk
 ·refine wpAny_storeName_local hk hn (fun h' hn' hs=>?_) hcls
  obtain ⟨oL,_,_,hoL,_⟩:=id hn
  refine h _ ⟨I.ok,I.os,I.bare,⟨fun b o e n hb hx=>?_,fun b o e n hb hx=>?_,I.base.free,fun b o e hx=>?_,I.base.tups,I.base.frzs,I.base.tbls⟩,⟨_,hn',fun j y v' e1 e2 e3=>?_⟩,fun y c e=>?_,I.free,I.freeC,fun p hp=>?_,tracked ⟨oL,hoL,I.free⟩ hs,by simpa using I.len⟩ ⟨_,hs,.inl rfl⟩
  ·exact (hs.2 b (aF (aI (Heap.lt_size e) I.ok.above))).trans (I.base.keep b o e n hb hx)
  ·obtain ⟨sl,e1⟩:=I.base.slot b o e n hb hx
   exact ⟨sl,(hs.2 b (aF (aI (Heap.lt_size e) I.ok.above))).trans e1⟩
  ·obtain ⟨o',e1⟩:=I.base.there b o e hx
   exact ⟨o',(hs.2 b (aF (aI (Heap.lt_size e) I.ok.above))).trans e1⟩
  ·by_cases hj : j=i
   ·subst hj
    rw [hi] at e1; cases e1
    rw [cJ hiσ] at e2
    cases e2
    exact ⟨u,r,.inl ⟨hk,by simp⟩⟩
   ·rw [aV (Ne.symm hj)] at e2
    obtain ⟨u',r',q⟩:=hl j y v' e1 e2 e3
    refine ⟨u',r',?_⟩
    rcases q with ⟨k,e⟩ | ⟨k,c,e,z⟩
    ·refine .inl ⟨k,?_⟩
     have : y≠x:=fun e=>hj (z8s hN e1 (e ▸ hi))
     simp [this,e]
    ·exact .inr ⟨k,c,e,z.sameBut hs (cne y c e)⟩
  ·obtain ⟨w',z⟩:=I.cell y c e
   exact ⟨w',z.sameBut hs (cne y c e)⟩
  ·obtain ⟨e,n,ne,nf,d⟩:=I.pin p hp
   exact ⟨(hs.2 p.1 ne).trans e,n,ne,nf,d⟩
 ·have hfn : X.fn x=true:=by
   rcases hf with z | z
   ·exact z
   ·rw [z] at hk; cases hk
  obtain ⟨c,hc⟩:=I.ok.has x (.inl hk)
  obtain ⟨w',z⟩:=I.cell x c hc
  refine wpAny_storeName_cell I.ok.kind hk hc z (fun h' hc' hs=>?_)
  obtain ⟨oc,hoc,hocd⟩:=id z
  refine h { s with heap:=h' } ⟨I.ok,I.os,I.bare,⟨fun b o e n hb hx=>?_,fun b o e n hb hx=>?_,I.base.free,fun b o e hx=>?_,I.base.tups,I.base.frzs,I.base.tbls⟩,⟨m,hn.sameBut hs (Ne.symm (cne x c hc)),fun j y v' e1 e2 e3=>?_⟩,fun y c' e=>?_,I.free,I.freeC,fun p hp=>?_,tracked ⟨oc,hoc,I.freeC x c hc⟩ hs,by simpa using I.len⟩ ⟨c,hs,.inr hc⟩
  ·exact (hs.2 b (aF (aI (Heap.lt_size e) (I.ok.cab x c hfn hc)))).trans (I.base.keep b o e n hb hx)
  ·obtain ⟨sl,e1⟩:=I.base.slot b o e n hb hx
   exact ⟨sl,(hs.2 b (aF (aI (Heap.lt_size e) (I.ok.cab x c hfn hc)))).trans e1⟩
  ·obtain ⟨o',e1⟩:=I.base.there b o e hx
   exact ⟨o',(hs.2 b (aF (aI (Heap.lt_size e) (I.ok.cab x c hfn hc)))).trans e1⟩
  ·by_cases hj : j=i
   ·subst hj
    rw [hi] at e1; cases e1
    rw [cJ hiσ] at e2
    cases e2
    exact ⟨u,r,.inr ⟨.inl hk,c,hc,hc'⟩⟩
   ·rw [aV (Ne.symm hj)] at e2
    obtain ⟨u',r',q⟩:=hl j y v' e1 e2 e3
    refine ⟨u',r',?_⟩
    rcases q with q | ⟨k,c',e,z'⟩
    ·exact .inl q
    ·refine .inr ⟨k,c',e,z'.sameBut hs ?_⟩
     rintro rfl
     exact hj (z8s hN e1 (I.ok.inj _ _ _ e hc ▸ hi))
  ·by_cases hcc : c'=c
   ·subst hcc; exact ⟨_,hc'⟩
   ·obtain ⟨w2,z2⟩:=I.cell y c' e
    exact ⟨w2,z2.sameBut hs hcc⟩
  ·obtain ⟨e,n,ne,nf,d⟩:=I.pin p hp
   refine ⟨(hs.2 p.1 ?_).trans e,n,ne,nf,d⟩
   intro q
   rw [q,hoc] at e
   have q' : oc=p.2:=Option.some.inj e
   exact d w' (by rw [← q']; exact hocd)
theorem z8E {M : Model} {A : Around} {E : Value->Shared->Prop} {i : Nat} {x : Str} {v : V} {u : Value} {Q : Unit->Shared->Prop} (I : Inv X pins σ H s) (hN : X.N.Nodup) (hi : X.N[i]? = some x) (hx : Loc X.env.scope x) (r : RelV v u)
  (h : ∀ s',Inv X pins (σ.set i (some v)) H s'->Q () s') (hf : X.fn x=true∨X.env.scope.names.lookup x=some .local:=by first | exact .inl rfl | exact .inr rfl | assumption) : wpAny M A (storeName X.env x u) Q E s:=
 z7k I hN hi hx r (fun s' I' _=>h s' I') hf
theorem Inv.call' {s' : Shared} {ch : List Addr} (I : Inv X pins σ H s) (ho : s'.os=s.os) (u : Un (frs X.stack) ch H H' s.heap s'.heap) (hok : HOk X.prog X.w H' s'.heap) (hg : AllBare s'.gens)
  (hch : ∀ b∈ch,(b∈X.ex∨X.s₀.heap.objs.size≤b)∧b≠X.env.locals∧(∀ x c,X.env.cells.lookup x=some c->c≠b)∧∀ p∈X.pn ++ pins,p.1≠b) : Inv X pins σ H' s':=by
 obtain ⟨h',g',d',t',o'⟩:=s'
 have e : o'=s.os:=ho
 subst e
 exact I.call (g':=g') (t':=t') (d':=d') u hok hg hch
end
abbrev XK:=Value->Option Addr->Hp->Prop
abbrev St:=List (Option V)
abbrev VK:=V->Hp->Prop
abbrev TE:=St->Hp->VK->Prop
abbrev TT:=St->Hp->(Bool->Hp->Prop)->Prop
abbrev TA:=St->Hp->(List V->Hp->Prop)->Prop
structure Ends where
 nx : St->Hp->Prop
 rt : VK
 bk : St->Hp->Prop:=fun _ _=>False
 ct : St->Hp->Prop:=fun _ _=>False
abbrev TS:=Ends->St->Hp->Prop
def EP (X : Cx) (pins : List (Addr × Obj)) (σ : St) (Q : VK) (u : Value) (s' : Shared) : Prop:=∃ v H',Inv X pins σ H' s'∧RelV v u∧Q v H'
def TP (X : Cx) (pins : List (Addr × Obj)) (σ : St) (Q : Bool->Hp->Prop) (b : Bool) (s' : Shared) : Prop:=∃ H',Inv X pins σ H' s'∧Q b H'
def AP (X : Cx) (pins : List (Addr × Obj)) (σ : St) (Q : List V->Hp->Prop) (us : List Value) (s' : Shared) : Prop:=∃ vs H',Inv X pins σ H' s'∧Vals vs us∧Q vs H'
def SP (X : Cx) (pins : List (Addr × Obj)) (D : Ends) (f : Flow) (s' : Shared) : Prop:=
 match f with
 | .next=>∃ σ' H',Inv X pins σ' H' s'∧D.nx σ' H'
 | .brk=>∃ σ' H',Inv X pins σ' H' s'∧D.bk σ' H'
 | .cont=>∃ σ' H',Inv X pins σ' H' s'∧D.ct σ' H'
 | .ret u=>∃ v σ' H',Inv X pins σ' H' s'∧RelV v u∧D.rt v H'
def PE (X : Cx) (e : Expr) (t : TE) : Prop:=
 ∀ (pins : List (Addr × Obj)) (s : Shared) (σ : St) (H : Hp) (Q : VK),Inv X pins σ H s->t σ H Q->wpAny (model X.prog X.w) X.A (eval e X.env) (EP X pins σ Q) X.xe s
def PT (X : Cx) (e : Expr) (t : TT) : Prop:=
 ∀ (pins : List (Addr × Obj)) (s : Shared) (σ : St) (H : Hp) (Q : Bool->Hp->Prop),Inv X pins σ H s->t σ H Q->wpAny (model X.prog X.w) X.A (isTrue e X.env (eval e X.env)) (TP X pins σ Q) X.xe s
def PW (X : Cx) (e : Expr) (t : TT) : Prop:=
 ∀ (whole : Sem Value) (pins : List (Addr × Obj)) (s : Shared) (σ : St) (H : Hp) (Q : Bool->Hp->Prop),Inv X pins σ H s->t σ H Q->wpAny (model X.prog X.w) X.A (isTrue e X.env whole) (TP X pins σ Q) X.xe s
theorem PW.pt {X : Cx} {e : Expr} {t : TT} (h : PW X e t) : PT X e t:=h _
def PA (X : Cx) (es : List Expr) (t : TA) : Prop:=
 ∀ (pos : Pos) (pins : List (Addr × Obj)) (s : Shared) (σ : St) (H : Hp) (Q : List V->Hp->Prop),Inv X pins σ H s->t σ H Q->wpAny (model X.prog X.w) X.A (spliced (backTo pos (starEach es X.env))) (AP X pins σ Q) X.xe s
def PS (X : Cx) (st : Stmt) (t : TS) : Prop:=
 ∀ (pins : List (Addr × Obj)) (s : Shared) (σ : St) (H : Hp) (D : Ends),Inv X pins σ H s->t D σ H->wpAny (model X.prog X.w) X.A (exec st X.env) (SP X pins D) X.xe s
def PSs (X : Cx) (st : List Stmt) (t : TS) : Prop:=
 ∀ (pins : List (Addr × Obj)) (s : Shared) (σ : St) (H : Hp) (D : Ends),Inv X pins σ H s->t D σ H->wpAny (model X.prog X.w) X.A (execs st X.env) (SP X pins D) X.xe s
theorem thn {α : Type} {t : Sem α} {Q Q' : α->Shared->Prop} {M : Model} {A : Around} {E : Value->Shared->Prop} {s : Shared} (h : wpAny M A t Q E s) (hQ : ∀ a s,Q a s->Q' a s) : wpAny M A t Q' E s:=wpAny_mono h hQ fun _ _ x=>x
end L2
namespace L2
open PySem PySem.Spec PyProof.Rows
section
variable {X : Cx}
def y3i (i : Nat) : TE:=fun σ H Q=>∃ v,σ[i]? = some (some v)∧Q v H
def tC (v : V) : TE:=fun _ H Q=>Q v H
theorem pe_var {i : Nat} {x : Str} {pos : Pos} (hN : X.N[i]? = some x) (hv : Vis X.env.scope x) (hd : (x == ("__debug__" : Str))=false:=by decide) (hcd : (x == ("__classdict__" : Str))=false:=by decide) : PE X (.Name x pos) (y3i i):=by
 intro pins s σ H Q I h
 obtain ⟨v,e,h⟩:=h
 obtain ⟨m,hn,hl⟩:=I.loc
 obtain ⟨u,r,l⟩:=hl i x v hN e hv
 have fin : EP X pins σ Q u s:=⟨v,H,I,r,h⟩
 rcases l with ⟨hk,hm⟩ | ⟨hk,c,hc,hcell⟩
 ·exact wpAny_Name (wpAny_loadName_local I.ok.kind hk hn hm fin) hd
 ·rcases hk with hk | hk
  ·exact wpAny_Name (wpAny_loadName_cell I.ok.kind hk hc hcell fin) hd
  ·exact wpAny_Name (wpAny_loadName_free I.ok.kind hk hc hcell fin hcd) hd
theorem pe_int {i j pos} : PE X (.Constant (.int i) j pos) (tC (.int i)):=fun _ _ _ H _ I h=>wpAny_Constant_int ⟨.int i,H,I.tok _,⟨_,rfl⟩,h⟩
theorem pe_bl {b j pos} : PE X (.Constant (.bool b) j pos) (tC (.bl b)):=fun _ _ _ H _ I h=>Constant_bool ⟨.bl b,H,I,rfl,h⟩
theorem pe_non {j pos} : PE X (.Constant .none j pos) (tC .non):=fun _ _ _ H _ I h=>Constant_none ⟨.non,H,I,rfl,h⟩
theorem pe_str {x j pos} : PE X (.Constant (.str x) j pos) (tC (.str x)):=fun _ _ _ H _ I h=>Calls.Constant_str ⟨.str x,H,I.tok _,⟨_,rfl⟩,h⟩
def Gl (X : Cx) (x : Str) : Prop:=X.env.kindOf x=some .globalImplicit
theorem z7s {E : Value->Shared->Prop} {pins : List (Addr × Obj)} {s : Shared} {σ : St} {H : Hp} {x : Str} {u : Value} {pos : Pos} {Q : Value->Shared->Prop} (I : Inv X pins σ H s) (hg : Gl X x) (hm : X.mg x=some u) (h : Q u s)
  (hd : (x == ("__debug__" : Str))=false:=by decide) : wpAny (model X.prog X.w) X.A (eval (.Name x pos) X.env) Q E s:=
 Calls.Name_function_global I.ok.kind hg (Calls.loadGlobal_global (by rw [I.ok.glob]; exact I.mod.glob.keeps I.bk) hm h) hd
theorem z4O {E : Value->Shared->Prop} {pins : List (Addr × Obj)} {s : Shared} {σ : St} {H : Hp} {x : Str} {u : Value} {pos : Pos} {Q : Value->Shared->Prop} (I : Inv X pins σ H s) (hg : Gl X x) (hm : X.mg x=none) (hv : bootBuiltins x=some u) (h : Q u s)
  (hn : x ≠ "__name__" := by decide) (hd : (x == ("__debug__" : Str))=false:=by decide) : wpAny (model X.prog X.w) X.A (eval (.Name x pos) X.env) Q E s:=by
 obtain ⟨mb,h1,h2⟩:=I.mod.blt
 exact Calls.Name_function_global I.ok.kind hg (Calls.loadGlobal_builtin (by rw [I.ok.glob]; exact I.mod.glob.keeps I.bk) hm (by rw [I.ok.blt]; exact h1.keeps I.bk) ((h2 x hn).trans hv) h) hd
theorem pe_bltn {x : Str} {v : V} {u : Value} {pos : Pos} (hg : Gl X x) (hm : X.mg x=none) (hv : bootBuiltins x=some u) (r : RelV v u) (hn : x ≠ "__name__" := by decide) (hd : (x == ("__debug__" : Str))=false:=by decide) : PE X (.Name x pos) (tC v):=
 fun _ _ _ H _ I h=>z4O I hg hm hv ⟨v,H,I,r,h⟩ hn hd
variable {a b : Expr} {ta tb : TE} {pos : Pos}
def PC (X : Cx) (op : CmpOp) (a b : Expr) (t : TE) : Prop:=
 ∀ (pins : List (Addr × Obj)) (s : Shared) (σ : St) (H : Hp) (Q : VK),Inv X pins σ H s->t σ H Q →
  wpAny (model X.prog X.w) X.A (eval a X.env) (fun v s₁=>wpAny (model X.prog X.w) X.A (eval b X.env) (fun u s₂=>wpAny (model X.prog X.w) X.A (compareOp op v u) (EP X pins σ Q) X.xe s₂) X.xe s₁) X.xe s
theorem y7T (b : Expr) {op : CmpOp} (h : op≠.In) (h2 : op≠.NotIn) : behindInMarks op b=false:=by
 have e1 : (op == CmpOp.In)=false:=by cases op <;> first | rfl | exact absurd rfl h
 have e2 : (op == CmpOp.NotIn)=false:=by cases op <;> first | rfl | exact absurd rfl h2
 cases b <;> simp [behindInMarks,e1,e2]
def tNotN (ta : TE) : TE:=fun σ H Q=>ta σ H fun x H1=>Q (.bl (!decide (x = .non))) H1
theorem RelV.none_iff {x : V} {v : Value} (r : RelV x v) : (v == Value.none)=decide (x = .non):=by
 cases x with
 | non=>cases r; rfl
 | bl _=>cases r; rfl
 | int _=>obtain ⟨t,rfl⟩:=r; rfl
 | str _=>obtain ⟨t,rfl⟩:=r; rfl
 | byt _=>obtain ⟨t,rfl⟩:=r; rfl
 | flt _=>obtain ⟨t,rfl⟩:=r; rfl
 | ref _=>cases r; rfl
 | ty _=>cases r; rfl
theorem pc_notN {j pos'} (ha : PE X a ta) : PC X .IsNot a (.Constant .none j pos') (tNotN ta):=by
 intro pins s σ H Q I h
 refine thn (ha pins s σ H _ I h) fun v s1 ⟨x,H1,I1,r1,q1⟩=>?_
 exact Constant_none (isnot_none_gen ⟨.bl _,H1,I1,by rw [r1.none_iff]; rfl,q1⟩)
def tB (t : TE) : TT:=fun σ H Q=>t σ H fun x H1=>∃ c,x = .bl c∧Q c H1
theorem y6P {op : CmpOp} {t : TE} (h : PC X op a b t) (h1 : behindInMarks op b=false:=by first | exact y7T _ (by decide) (by decide) | rfl) : PT X (.Compare a [op] [b] pos) (tB t):=by
 intro pins s σ H Q I hw
 refine wpAny_isTrue_Compare1 (thn (h pins s σ H _ I hw) fun v s1 h1=>thn h1 fun u s2 h2=>thn h2 fun c s3 ⟨x,H1,I1,r1,q1⟩=>?_) h1
 obtain ⟨d,rfl,q⟩:=q1
 cases r1
 exact wpAny_truthy_bool ⟨H1,I1,q⟩
variable {tA tB' : TT} {rest : List Expr}
def tAnd (t u : TT) : TT:=fun σ H Q=>t σ H fun c H1=>if c=true then u σ H1 Q else Q false H1
def tOr (t u : TT) : TT:=fun σ H Q=>t σ H fun c H1=>if c=true then Q true H1 else u σ H1 Q
def tNot (t : TT) : TT:=fun σ H Q=>t σ H fun c H1=>Q (!c) H1
theorem pw_and1 (ha : PT X a tA) : PW X (.BoolOp .And [a] pos) tA:=by
 intro wh pins s σ H Q I h
 refine isTrue_and (thn (ha pins s σ H Q I h) fun c s1 e=>?_)
 cases c with
 | true=>exact isTrue_and_nil e
 | false=>exact e
theorem pw_or1 (ha : PT X a tA) : PW X (.BoolOp .Or [a] pos) tA:=by
 intro wh pins s σ H Q I h
 refine isTrue_or (thn (ha pins s σ H Q I h) fun c s1 e=>?_)
 cases c with
 | false=>exact isTrue_or_nil e
 | true=>exact e
theorem pw_and (ha : PT X a tA) (hb : PW X (.BoolOp .And (b :: rest) pos) tB') : PW X (.BoolOp .And (a :: b :: rest) pos) (tAnd tA tB'):=by
 intro wh pins s σ H Q I h
 refine isTrue_and (thn (ha pins s σ H _ I h) fun c s1 ⟨H1,I1,q1⟩=>?_)
 cases c with
 | true=>exact hb wh pins s1 σ H1 Q I1 q1
 | false=>exact ⟨H1,I1,q1⟩
theorem pw_or (ha : PT X a tA) (hb : PW X (.BoolOp .Or (b :: rest) pos) tB') : PW X (.BoolOp .Or (a :: b :: rest) pos) (tOr tA tB'):=by
 intro wh pins s σ H Q I h
 refine isTrue_or (thn (ha pins s σ H _ I h) fun c s1 ⟨H1,I1,q1⟩=>?_)
 cases c with
 | true=>exact ⟨H1,I1,q1⟩
 | false=>exact hb wh pins s1 σ H1 Q I1 q1
theorem pt_not (ha : PT X a tA) : PT X (.UnaryOp .Not a pos) (tNot tA):=by
 intro pins s σ H Q I h
 exact isTrue_not (ha pins s σ H (fun c H1=>Q (!c) H1) I h)
def tAndV (ta tb : TE) : TE:=fun σ H Q=>ta σ H fun x H1=>∃ c,x = .bl c∧if c=true then tb σ H1 Q else Q (.bl false) H1
def tNotV (ta : TE) : TE:=fun σ H Q=>ta σ H fun x H1=>∃ c,x = .bl c∧Q (.bl (!c)) H1
theorem pe_one {op} {t : TE} (h : PE X a t) : PE X (.BoolOp op [a] pos) t:=fun pins s σ H Q I hw=>BoolOp_one (h pins s σ H Q I hw)
theorem pe_and (ha : PE X a ta) (hb : PE X (.BoolOp .And (b :: rest) pos) tb) : PE X (.BoolOp .And (a :: b :: rest) pos) (tAndV ta tb):=by
 intro pins s σ H Q I h
 refine BoolOp_and (thn (ha pins s σ H _ I h) fun v s1 ⟨x,H1,I1,r1,q1⟩=>?_)
 obtain ⟨c,rfl,q1⟩:=q1
 cases r1
 refine wpAny_truthy_bool ?_
 cases c with
 | true=>exact hb pins s1 σ H1 Q I1 q1
 | false=>exact ⟨.bl false,H1,I1,rfl,q1⟩
theorem pe_not (ha : PE X a ta) : PE X (.UnaryOp .Not a pos) (tNotV ta):=by
 intro pins s σ H Q I h
 refine UnaryOp_ (thn (ha pins s σ H _ I h) fun v s1 ⟨x,H1,I1,r1,q1⟩=>?_)
 obtain ⟨c,rfl,q1⟩:=q1
 cases r1
 exact not_of (wpAny_truthy_bool ⟨.bl (!c),H1,I1,rfl,q1⟩)
def tIf (t : TT) (ta tb : TE) : TE:=fun σ H Q=>t σ H fun c H1=>if c=true then ta σ H1 Q else tb σ H1 Q
theorem y7V {c : Expr} (hc : PT X c tA) (ha : PE X a ta) (hb : PE X b tb) : PE X (.IfExp c a b pos) (tIf tA ta tb):=by
 intro pins s σ H Q I h
 refine wpAny_IfExp (thn (hc pins s σ H _ I h) fun d s1 ⟨H1,I1,q1⟩=>?_)
 cases d with
 | true=>exact ha pins s1 σ H1 Q I1 q1
 | false=>exact hb pins s1 σ H1 Q I1 q1
end
end L2
namespace L2
open PySem PySem.Spec PyProof.Rows
def SqL (K : aa) (H : Hp) (a : Addr) (xs : List V) : Prop:=
 Rd H a (.lst xs) ∨
  ∃ (o : Obj) (its : Array Value) (n : Nat),K.lookup a=some o∧o.cls = .type "list" ∧ o.dict=none∧o.data = .seq its n∧its.size≤sizeLine∧Vals xs its.toList
def SqT (K : aa) (H : Hp) (a : Addr) (xs : List V) : Prop:=
 Rd H a (.tup xs) ∨
  ∃ (o : Obj) (its : Array Value) (n : Nat),K.lookup a=some o∧(o.cls = .type "tuple" ∧ o.dict=none)∧o.data = .seq its n∧its.size≤sizeLine∧Vals xs its.toList
def absV : Value->Option V
 | .none=>some .non
 | .bool b=>some (.bl b)
 | .int i _=>some (.int i)
 | .str x _=>some (.str x)
 | .bytes b _=>some (.byt b)
 | .float b _=>some (.flt b)
 | .ref a=>some (.ref a)
 | .type n=>some (.ty n)
 | _=>none
theorem RelV.abs {x : V} {u : Value} (r : RelV x u) : absV u=some x:=by
 cases x with
 | non=>cases r; rfl
 | bl _=>cases r; rfl
 | int _=>obtain ⟨t,rfl⟩:=r; rfl
 | str _=>obtain ⟨t,rfl⟩:=r; rfl
 | byt _=>obtain ⟨t,rfl⟩:=r; rfl
 | flt _=>obtain ⟨t,rfl⟩:=r; rfl
 | ref _=>cases r; rfl
 | ty _=>cases r; rfl
theorem RelV.inj {x y : V} {u : Value} (r : RelV x u) (q : RelV y u) : x=y:=Option.some.inj (r.abs.symm.trans q.abs)
theorem Vals.inj : ∀ {xs ys : List V} {us : List Value},Vals xs us->Vals ys us->xs=ys
 | _,_,_,.nil,.nil=>rfl
 | _,_,_,.cons r t,.cons r' t'=>by rw [r.inj r',Vals.inj t t']
section
variable {X : Cx} {pins : List (Addr × Obj)} {σ : St} {H : Hp} {s : Shared} {a : Addr} {xs ys : List V}
theorem SqL.of {K : aa} (h : H a=some (.lst xs)) : SqL K H a xs:=.inl (.inl h)
theorem SqT.of {K : aa} (h : H a=some (.tup xs)) : SqT K H a xs:=.inl (.inl h)
theorem Inv.list (I : Inv X pins σ H s) (h : SqL X.K H a xs) : ∃ its : List Value,Vals xs its∧PlainL s.heap a its.toArray∧xs.length≤sizeLine:=by
 rcases h with h | ⟨o,its,n,hk,hc,hd,hs,hz,r⟩
 ·obtain ⟨z,its,n,r,e⟩:=h.ok I.hok
  exact ⟨its,r,⟨_,n,e,rfl,rfl,rfl⟩,z⟩
 ·refine ⟨its.toList,r,⟨o,n,I.kIn a o hk,hc,hd,by simpa using hs⟩,?_⟩
  have e:=r.length
  simp only [ck] at e
  omega
theorem Inv.tuple (I : Inv X pins σ H s) (h : SqT X.K H a xs) : ∃ its : List Value,Vals xs its∧IsTup s.heap a its.toArray∧xs.length≤sizeLine:=by
 rcases h with h | ⟨o,its,n,hk,hc,hs,hz,r⟩
 ·obtain ⟨z,its,r,p⟩:=h.ok I.hok
  exact ⟨its,r,p.is,z⟩
 ·refine ⟨its.toList,r,⟨o,I.kIn a o hk,hc.1,n,by simpa using hs⟩,?_⟩
  have e:=r.length
  simp only [ck] at e
  omega
theorem Inv.list_inj (I : Inv X pins σ H s) (h : SqL X.K H a xs) (h' : SqL X.K H a ys) : xs=ys:=by
 obtain ⟨its,r,⟨o,n,e,_,_,d⟩,_⟩:=I.list h
 obtain ⟨its',r',⟨o',n',e',_,_,d'⟩,_⟩:=I.list h'
 rw [e] at e'; cases e'
 rw [d] at d'
 injection d' with d1 _
 have : its=its':=by simpa using congrArg Array.toList d1
 subst this
 exact r.inj r'
theorem Inv.tuple_inj (I : Inv X pins σ H s) (h : SqT X.K H a xs) (h' : SqT X.K H a ys) : xs=ys:=by
 obtain ⟨its,r,⟨o,e,_,n,d⟩,_⟩:=I.tuple h
 obtain ⟨its',r',⟨o',e',_,n',d'⟩,_⟩:=I.tuple h'
 rw [e] at e'; cases e'
 rw [d] at d'
 injection d' with d1 _
 have : its=its':=by simpa using congrArg Array.toList d1
 subst this
 exact r.inj r'
end
abbrev Cx.wish (X : Cx) (E : Value->Shared->Prop) : Cx:={ X with xe:=E }
abbrev Cx.nox (X : Cx) : Cx:=X.wish fun _ _=>False
theorem Cx.Ok.wish {X : Cx} (ok : X.Ok) (E : Value->Shared->Prop) : (X.wish E).Ok:=
 ⟨ok.mod,ok.kind,ok.glob,ok.blt,ok.above,ok.inj,ok.has,ok.cab,ok.hd,ok.frames,ok.stk,ok.exf,ok.bs,ok.bsz,ok.noex,ok.exfs,ok.funs,ok.frf⟩
theorem Cx.Ok.unwish {X : Cx} {E : Value->Shared->Prop} (ok : (X.wish E).Ok) : X.Ok:=
 ⟨ok.mod,ok.kind,ok.glob,ok.blt,ok.above,ok.inj,ok.has,ok.cab,ok.hd,ok.frames,ok.stk,ok.exf,ok.bs,ok.bsz,ok.noex,ok.exfs,ok.funs,ok.frf⟩
section
variable {X : Cx} {pins : List (Addr × Obj)} {σ : St} {H : Hp} {s : Shared} {E : Value->Shared->Prop}
theorem Inv.wish (I : Inv X pins σ H s) (E : Value->Shared->Prop) : Inv (X.wish E) pins σ H s:=⟨I.ok.wish E,I.os,I.bare,I.base,I.loc,I.cell,I.free,I.freeC,I.pin,I.hok,I.len⟩
theorem Inv.unwish (I : Inv (X.wish E) pins σ H s) : Inv X pins σ H s:=⟨I.ok.unwish,I.os,I.bare,I.base,I.loc,I.cell,I.free,I.freeC,I.pin,I.hok,I.len⟩
theorem SP.unwish {D : Ends} {f : Flow} {s' : Shared} (h : SP (X.wish E) pins D f s') : SP X pins D f s':=by
 cases f with
 | next=>obtain ⟨σ',H',I,q⟩:=h; exact ⟨σ',H',I.unwish,q⟩
 | brk=>obtain ⟨σ',H',I,q⟩:=h; exact ⟨σ',H',I.unwish,q⟩
 | cont=>obtain ⟨σ',H',I,q⟩:=h; exact ⟨σ',H',I.unwish,q⟩
 | ret u=>obtain ⟨v,σ',H',I,r,q⟩:=h; exact ⟨v,σ',H',I.unwish,r,q⟩
theorem PSs.nox {st : List Stmt} {t : TS} (h : PSs X.nox st t) : PSs X st t:=fun pins s σ H D I hw=>
 wpAny_mono (h pins s σ H D (I.wish _) hw) (fun _ _ q=>q.unwish) fun _ _ z=>False.elim z
end
section
variable {X : Cx} {st : Stmt} {rest : List Stmt} {t u : TS} {e : Expr} {te : TE} {pos : Pos}
def tNext : TS:=fun D σ H=>D.nx σ H
def tSeq (t u : TS) : TS:=fun D σ H=>t { D with nx:=u D } σ H
theorem pss_nil : PSs X [] tNext:=fun _ _ σ H _ I h=>wpAny_execs_nil ⟨σ,H,I,h⟩
theorem y8T (h1 : PS X st t) (h2 : PSs X rest u) : PSs X (st :: rest) (tSeq t u):=by
 intro pins s σ H D I h
 refine wpAny_execs_cons (thn (h1 pins s σ H { D with nx:=u D } I h) fun f s1 q=>?_)
 cases f with
 | next=>
  obtain ⟨σ',H',I',q⟩:=q
  exact h2 pins s1 σ' H' D I' q
 | ret v=>exact q
 | brk=>exact q
 | cont=>exact q
theorem pss_one (h1 : PS X st t) : PSs X [st] t:=by
 intro pins s σ H D I h
 refine wpAny_execs_cons (thn (h1 pins s σ H D I h) fun f s1 q=>?_)
 cases f with
 | next=>exact wpAny_execs_nil q
 | ret v=>exact q
 | brk=>exact q
 | cont=>exact q
theorem Inv.quiet {pins : List (Addr × Obj)} {σ : St} {H : Hp} {s : Shared} (I : Inv X pins σ H s) : interactive X.env=false:=by simp [interactive,I.ok.kind]
def tDrop (te : TE) : TS:=fun D σ H=>te σ H fun _ H1=>D.nx σ H1
theorem z7r (he : PE X e te) (hs : swapsWith e none pos.line X.env=pure false:=by rfl) : PS X (.Expr e pos) (tDrop te):=by
 intro pins s σ H D I h
 exact wpAny_Expr_any (thn (he pins s σ H _ I h) fun v s1 ⟨x,H1,I1,r1,q1⟩=>⟨σ,H1,I1,q1⟩) I.quiet hs
def tRet (te : TE) : TS:=fun D σ H=>te σ H D.rt
theorem z7d (he : PE X e te) : PS X (.Return (some e) pos) (tRet te):=by
 intro pins s σ H D I h
 exact wpAny_Return_some (thn (he pins s σ H _ I h) fun v s1 ⟨x,H1,I1,r1,q1⟩=>⟨x,σ,H1,I1,r1,q1⟩)
def tIfS (c : TT) (t u : TS) : TS:=fun D σ H=>c σ H fun b H1=>if b=true then t D σ H1 else u D σ H1
theorem ps_if {c : Expr} {a b : List Stmt} {tc : TT} (hc : PT X c tc) (ha : PSs X a t) (hb : PSs X b u) : PS X (.If c a b pos) (tIfS tc t u):=by
 intro pins s σ H D I h
 refine wpAny_If (thn (hc pins s σ H _ I h) fun d s1 ⟨H1,I1,q1⟩=>?_)
 cases d with
 | true=>exact ha pins s1 σ H1 D I1 q1
 | false=>exact hb pins s1 σ H1 D I1 q1
end
abbrev TG:=V->St->Hp->(St->Hp->Prop)->Prop
abbrev TGs:=List V->St->Hp->(St->Hp->Prop)->Prop
def PG (X : Cx) (target : Expr) (t : TG) : Prop:=
 ∀ (pins : List (Addr × Obj)) (s : Shared) (σ : St) (H : Hp) (v : V) (u : Value) (Q : St->Hp->Prop),Inv X pins σ H s->RelV v u->t v σ H Q →
  wpAny (model X.prog X.w) X.A (assign target X.env u) (fun _ s'=>∃ σ' H',Inv X pins σ' H' s'∧Q σ' H') X.xe s
def PGs (X : Cx) (ts : List Expr) (t : TGs) : Prop:=
 ∀ (pins : List (Addr × Obj)) (s : Shared) (σ : St) (H : Hp) (vs : List V) (us : List Value) (Q : St->Hp->Prop),Inv X pins σ H s->Vals vs us->t vs σ H Q →
  wpAny (model X.prog X.w) X.A (assignInOrder ((assignEach ts X.env).map (·.2)) us) (fun _ s'=>∃ σ' H',Inv X pins σ' H' s'∧Q σ' H') X.xe s
abbrev TSet:=V->V->V->Hp->(Hp->Prop)->Prop
def PSet (X : Cx) (t : TSet) : Prop:=
 ∀ (pins : List (Addr × Obj)) (s : Shared) (σ : St) (H : Hp) (o i v : V) (ov iv u : Value) (Q : Hp->Prop),Inv X pins σ H s->RelV o ov->RelV i iv->RelV v u->t o i v H Q →
  wpAny (model X.prog X.w) X.A (setItem ov iv u) (fun _ s'=>∃ H',Inv X pins σ H' s'∧Q H') X.xe s
section
variable {X : Cx} {pos : Pos}
def z2Z (i : Nat) : TG:=fun v σ H Q=>Q (σ.set i (some v)) H
theorem z0l {i : Nat} {x : Str} (hN : X.N.Nodup) (hi : X.N[i]? = some x) (hx : Loc X.env.scope x) (hf : X.fn x=true∨X.env.scope.names.lookup x=some .local:=by first | exact .inl rfl | exact .inr rfl | assumption) : PG X (.Name x pos) (z2Z i):=by
 intro pins s σ H v u Q I r h
 exact wpAny_assign_Name (z8E I hN hi hx r (fun s' I'=>⟨_,H,I',h⟩) hf)
def gNil : TGs:=fun vs σ H Q=>vs=[]∧Q σ H
def y6L (t : TG) (u : TGs) : TGs:=fun vs σ H Q=>∃ v r,vs=v :: r∧t v σ H fun σ' H'=>u r σ' H' Q
theorem y6E : PGs X [] gNil:=by
 intro pins s σ H vs us Q I r h
 obtain ⟨e,h⟩:=h
 subst e
 cases r
 exact assignInOrder_nil ⟨σ,H,I,h⟩
theorem z6x {e : Expr} {es : List Expr} {t : TG} {u : TGs} (h1 : PG X e t) (h2 : PGs X es u)
  (hs : (assignEach (e :: es) X.env).map (·.2)=assign e X.env :: (assignEach es X.env).map (·.2):=by rfl) : PGs X (e :: es) (y6L t u):=by
 intro pins s σ H vs us Q I r h
 obtain ⟨v,vr,e1,h⟩:=h
 subst e1
 cases r with
 | cons r rr=>
  rw [hs]
  refine assignInOrder_cons (thn (h1 pins s σ H _ _ _ I r h) fun _ s1 ⟨σ1,H1,I1,q1⟩=>?_)
  exact h2 pins s1 σ1 H1 _ _ Q I1 rr q1
def gTup (K : aa) (n : Nat) (t : TGs) : TG:=fun v σ H Q=>∃ a xs,v = .ref a∧SqT K H a xs∧xs.length=n∧t xs σ H Q
theorem y9V {es : List Expr} {k : Nat} {t : TGs} {n : Nat} (hc : X.calm=true) (h : PGs X es t)
  (hn : (assignEach es X.env).length=n:=by rfl) (hst : (assignEach es X.env).findIdx? (·.1)=none:=by rfl) : PG X (.Tuple es k pos) (gTup X.K n t):=by
 intro pins s σ H v u Q I r hw
 obtain ⟨a,xs,e1,hq,hl,hw⟩:=hw
 subst e1
 cases r
 obtain ⟨its,rv,ht,hz⟩:=I.tuple hq
 refine assign_Tuple_tuple (I.ok.hd hc) ht (by simp [hn,← hl,rv.length]) hst fun h' hx=>?_
 have I1 : Inv X pins σ H { s with heap:=h' }:=I.kept (t':=s.toks) fun b o e=>hx b o (aF (Heap.lt_size e)) e
 exact h pins _ σ H xs _ Q I1 (by simpa using rv) hw
def gSub (to ti : TE) (t : TSet) : TG:=fun v σ H Q=>to σ H fun o H1=>ti σ H1 fun i H2=>t o i v H2 fun H3=>Q σ H3
theorem x0e {o i : Expr} {to ti : TE} {t : TSet} (ho : PE X o to) (hi : PE X i ti) (hs : PSet X t)
  (ha : ∀ v,assign (.Subscript o i pos) X.env v=(do
   let ov ← holding [v] (eval o X.env)
   let iv ← holding [v,ov] (eval i X.env)
   standAt pos
   holding [v,ov,iv] (setItem ov iv v)
   release [v,ov,iv] []):=by intro _; rfl) : PG X (.Subscript o i pos) (gSub to ti t):=by
 intro pins s σ H v u Q I r h
 rw [ha]
 refine wpAny_bind (wpAny_holding (thn (ho pins s σ H _ I h) fun ov s1 ⟨x,H1,I1,r1,q1⟩=>?_))
 refine wpAny_bind (wpAny_holding (thn (hi pins s1 σ H1 _ I1 q1) fun iv s2 ⟨y,H2,I2,r2,q2⟩=>?_))
 refine wpAny_bind (wpAny_standAt (wpAny_bind (wpAny_holding (thn (hs pins s2 σ H2 x y v ov iv u _ I2 r1 r2 r q2) fun _ s3 ⟨H3,I3,q3⟩=>?_))))
 exact wpAny_release ⟨σ,H3,I3,q3⟩
def tAsg (te : TE) (g : TG) : TS:=fun D σ H=>te σ H fun x H1=>g x σ H1 D.nx
theorem y9J {tg e : Expr} {te : TE} {g : TG} (he : PE X e te) (hg : PG X tg g) (hs : swapsWithSole [tg] e pos.line X.env=pure false:=by rfl) (hw : swappedStores [tg] e X.env=pure none:=by rfl)
  (h1 : (assignEach [tg] X.env).map (·.2)=[assign tg X.env]:=by rfl) : PS X (.Assign [tg] e pos) (tAsg te g):=by
 intro pins s σ H D I h
 refine wpAny_Assign_stores (thn (he pins s σ H _ I h) fun v s1 ⟨x,H1,I1,r1,q1⟩=>?_) hs hw
 rw [h1]
 exact thn (hg pins s1 σ H1 x v _ I1 r1 q1) fun _ s2 q=>q
theorem ps_set {i : Nat} {x : Str} {e : Expr} {te : TE} {pos' : Pos} (hN : X.N.Nodup) (hi : X.N[i]? = some x) (hx : Loc X.env.scope x) (he : PE X e te) (hs : swapsWith e (some (.Name x pos')) pos.line X.env=pure false:=by rfl) (hf : X.fn x=true∨X.env.scope.names.lookup x=some .local:=by first | exact .inl rfl | exact .inr rfl | assumption) :
  PS X (.Assign [.Name x pos'] e pos) (tAsg te (z2Z i)):=by
 intro pins s σ H D I h
 refine wpAny_Assign_Name (thn (he pins s σ H _ I h) fun v s1 ⟨y,H1,I1,r1,q1⟩=>?_) hs
 exact z8E I1 hN hi hx r1 (fun s2 I2=>⟨_,H1,I2,q1⟩) hf
end
section
variable {X : Cx} {pos : Pos}
def tWhile (c : TT) (tb : TS) : TS:=fun D σ H=>∃ W : Nat->St->Hp->Prop,(∃ m,W m σ H)∧∀ m σ H,W m σ H →
 c σ H fun b H1=>if b=true then ∃ N : St->Hp->Prop,(∀ σ' H',N σ' H'->∃ m',m' < m∧W m' σ' H')∧tb { D with nx:=N,ct:=N,bk:=D.nx } σ H1 else D.nx σ H1
theorem y7Z {c : Expr} {body : List Stmt} {tc : TT} {tb : TS} (hp : PassesOwn (model X.prog X.w) X.A X.env X.xe) (hc : PT X c tc) (hb : PSs X body tb) : PS X (.While c body [] pos) (tWhile tc tb):=by
 intro pins s σ H D I h
 obtain ⟨W,⟨m0,w0⟩,turn⟩:=h
 refine wpAny_While (codeAny_whileLoop (fun n s'=>∃ σ' H',Inv X pins σ' H' s'∧W n σ' H') ?_ m0 ⟨σ,H,I,w0⟩)
 rintro n s1 ⟨σ1,H1,I1,w1⟩
 refine wpAny_passesOwn hp (thn (hc pins s1 σ1 H1 _ I1 (turn n σ1 H1 w1)) fun b s2 ⟨H2,I2,q2⟩=>?_)
 cases b with
 | true=>
  obtain ⟨N,hN,q2⟩:=q2
  rw [if_pos rfl]
  refine wpAny_passesOwn hp (thn (hb pins s2 σ1 H2 _ I2 q2) fun f s3 q3=>?_)
  cases f with
  | next=>
   obtain ⟨σ3,H3,I3,n3⟩:=q3
   obtain ⟨m',hm,w3⟩:=hN σ3 H3 n3
   exact ⟨m',hm,σ3,H3,I3,w3⟩
  | cont=>
   obtain ⟨σ3,H3,I3,n3⟩:=q3
   obtain ⟨m',hm,w3⟩:=hN σ3 H3 n3
   exact ⟨m',hm,σ3,H3,I3,w3⟩
  | brk=>exact q3
  | ret v=>exact q3
 | false=>
  rw [if_neg ax]
  exact wpAny_execs_nil ⟨σ1,H2,I2,q2⟩
end
structure It where
 go : Nat->Hp->Prop
 yld : Nat->Hp->V->Hp->Prop
 stop : Nat->Hp->Prop
def y0A (X : Cx) (pins : List (Addr × Obj)) (H : Hp) (b : Addr) : Prop:=
 H b=none∧b≠X.env.locals∧b ∉ X.fs∧(b∈X.ex∨X.s₀.heap.objs.size≤b)∧(∀ x c,X.env.cells.lookup x=some c->c≠b)∧∀ p∈X.pn ++ pins,p.1≠b
theorem Inv.fpOk {X : Cx} {pins : List (Addr × Obj)} {σ : St} {H H' : Hp} {s : Shared} {b : Addr} (I : Inv X pins σ H s) (hb : s.heap.objs.size≤b) (hn : H' b=none) : y0A X pins H' b:=by
 refine ⟨hn,bP (aI I.lt hb),I.nofs hb,.inr (aJ I.sz hb),fun x c e z=>?_,fun p hp z=>?_⟩
 ·obtain ⟨v,q⟩:=I.cell x c e
  exact absurd (aI q.lt (by rw [z]; exact hb)) (bi _)
 ·exact absurd (aI (Heap.lt_size (I.pin p hp).1) (by rw [z]; exact hb)) (bi _)
structure Turn (P : Program) (w : World) (K : aa) (tg : Expr) (J : It) (fp : List Addr) (it : Addr) (tn : Nat->Heap->Prop) : Prop where
 mem : it∈fp
 obj : ∀ i h,tn i h->∀ b∈fp,∃ o,h.get? b=some o∧∀ v,o.data≠.cell v
 keep : ∀ i h h',tn i h->(∀ b∈fp,∀ o,h.get? b=some o->h'.get? b=some o)->tn i h'
 item : ∀ (X : Cx),X.prog=P->X.w=w->X.K=K->X.calm=true->∀ (i : Nat) (pins : List (Addr × Obj)) (s : Shared) (σ : St) (H : Hp) (E : Value->Shared->Prop),Inv X pins σ H s->(∀ b∈fp,y0A X pins H b)->tn i s.heap->J.go i H →
  wpAny (model P w) X.A (pyNext (.ref it)) (fun r s1=>∃ u,r=some u ∧
   wpAny (model P w) X.A (letOwnedTupleGo tg (.ref it) u) (fun _ s2=>∃ x H',Inv X pins σ H' s2∧RelV x u∧J.yld i H x H'∧tn (i + 1) s2.heap∧∀ b∈fp,H' b=none) E s1) E s
 done : ∀ (X : Cx),X.prog=P->X.w=w->X.K=K->X.calm=true->∀ (i : Nat) (pins : List (Addr × Obj)) (s : Shared) (σ : St) (H : Hp) (E : Value->Shared->Prop),Inv X pins σ H s->(∀ b∈fp,y0A X pins H b)->tn i s.heap->J.stop i H →
  wpAny (model P w) X.A (pyNext (.ref it)) (fun r s1=>r=none∧Inv X pins σ H s1) E s
 self : ∀ (A : Around) (i : Nat) (s : Shared) (Q : Value->Shared->Prop) (E : Value->Shared->Prop),tn i s.heap->Q (.ref it) s->wpAny (model P w) A (pyIter (.ref it)) Q E s
abbrev TI:=St->Hp->(It->Hp->Prop)->Prop
def PIE (X : Cx) (pins : List (Addr × Obj)) (σ : St) (tg : Expr) (R : It->Hp->Prop) (itv : Value) (s2 : Shared) : Prop:=
 ∃ (it : Addr) (fp : List Addr) (tn : Nat->Heap->Prop) (J : It) (H' : Hp),itv = .ref it∧Inv X pins σ H' s2∧Turn X.prog X.w X.K tg J fp it tn∧tn 0 s2.heap∧(∀ b∈fp,y0A X pins H' b)∧R J H'
def PI (X : Cx) (tg iter : Expr) (wi : TI) : Prop:=
 ∀ (pins : List (Addr × Obj)) (s : Shared) (σ : St) (H : Hp) (R : It->Hp->Prop),Inv X pins σ H s->wi σ H R →
  wpAny (model X.prog X.w) X.A (eval iter X.env) (fun v s1=>wpAny (model X.prog X.w) X.A (pyIter v) (PIE X pins σ tg R) X.xe s1) X.xe s
theorem y6J {M : Model} {A : Around} {E : Value->Shared->Prop} {s : Shared} {tg : Expr} {it : Addr} {u : Value} {o : Obj} {n : String} {vs : Array Value} {Q : Unit->Shared->Prop} (ho : s.heap.get? it=some o) (hc : o.cls = .type n) (hd : o.data = .fields vs)
  (hn : ["enumerate", "zip", "dict_itemiterator", "dict_reverseitemiterator", "odict_iterator", "itertools.zip_longest", "itertools.pairwise"].contains n=false) (hQ : Q () s) : wpAny M A (letOwnedTupleGo tg (.ref it) u) Q E s:=by
 unfold letOwnedTupleGo
 cases tg <;> first
  | exact wpAny_pure hQ
  | (cases u <;> first
    | exact wpAny_pure hQ
    | (refine wpAny_bind (wpAny_load ho ?_)
       rw [hc,hd]
       show wpAny M A (if (["enumerate", "zip", "dict_itemiterator", "dict_reverseitemiterator", "odict_iterator", "itertools.zip_longest", "itertools.pairwise"].contains n && vs[0]? == some (rawInt _))=true then _ else _) Q E s
       rw [if_neg (by intro h; rw [hn,dL] at h; cases h)]
       exact wpAny_pure hQ))
def Itl (K : aa) (a : Addr) : It:=
 ⟨fun i H=>∃ xs x,SqL K H a xs∧xs[i]? = some x,fun i H x H'=>H'=H∧∀ xs,SqL K H a xs->xs[i]? = some x,fun i H=>∃ xs,SqL K H a xs∧xs.length≤i⟩
def Itt (K : aa) (a : Addr) : It:=
 ⟨fun i H=>∃ xs x,SqT K H a xs∧xs[i]? = some x,fun i H x H'=>H'=H∧∀ xs,SqT K H a xs->xs[i]? = some x,fun i H=>∃ xs,SqT K H a xs∧xs.length≤i⟩
def Itr (lo : Int) (n : Nat) : It:=⟨fun i _=>i < n,fun i H x H'=>H'=H∧x = .int (lo + i),fun i _=>n≤i⟩
theorem y7c {P : Program} {w : World} {K : aa} {tg : Expr} (a it : Addr) : Turn P w K tg (Itl K a) [it] it (fun i h=>h.IsListIter it a i) where
 mem:=by simp
 obj:=fun i h st b hb=>by
  have e : b=it:=by simpa using hb
  subst e
  obtain ⟨o,e,c,d⟩:=st
  exact ⟨o,e,fun v z=>by rw [d] at z; cases z⟩
 keep:=fun i h h' st k=>st.at fun o e=>k it (by simp) o e
 item:=by
  intro X hP hw hK hc i pins s σ H E I hf st hg
  subst hP hw hK
  obtain ⟨xs,x,hq,hx⟩:=hg
  obtain ⟨its,rv,p,hz⟩:=I.list hq
  obtain ⟨u,hu,ru⟩:=rv.get hx
  obtain ⟨f0,f1,f2,f3,f4,f5⟩:=hf it (by simp)
  refine wpAny_pyNext_list_item st p.isList (x:=u) (by simpa using hu) fun h' st' sb=>?_
  have I1 : Inv X pins σ H { s with heap:=h' }:=I.turned (t':=s.toks) (fun b o hb e=>(sb.2 b hb).trans e) f0 f1 f3 f4 f5
  obtain ⟨o,e,c,d⟩:=id st'
  exact ⟨u,rfl,y6J (s:={ s with heap:=h' }) e c d (by decide) ⟨x,H,I1,ru,⟨rfl,fun ys hy=>by rw [I.list_inj hy hq]; exact hx⟩,st',fun b hb=>(hf b hb).1⟩⟩
 done:=by
  intro X hP hw hK hc i pins s σ H E I hf st hg
  subst hP hw hK
  obtain ⟨xs,hq,hx⟩:=hg
  obtain ⟨its,rv,p,hz⟩:=I.list hq
  obtain ⟨f0,f1,f2,f3,f4,f5⟩:=hf it (by simp)
  have hl:=rv.length
  exact wpAny_pyNext_list_end (I.ok.hd hc) st p.isList (by simp; omega) fun h' eb=>⟨rfl,I.turned (t':=s.toks) (fun b o hb e=>eb b o hb e) f0 f1 f3 f4 f5⟩
 self:=fun _ _ _ _ _ st h=>wpAny_pyIter_listiter st h
theorem y4i {P : Program} {w : World} {K : aa} {tg : Expr} (a it : Addr) : Turn P w K tg (Itt K a) [it] it (fun i h=>h.IsTupleIter it a i) where
 mem:=by simp
 obj:=fun i h st b hb=>by
  have e : b=it:=by simpa using hb
  subst e
  obtain ⟨o,e,c,d⟩:=st
  exact ⟨o,e,fun v z=>by rw [d] at z; cases z⟩
 keep:=fun i h h' st k=>st.at fun o e=>k it (by simp) o e
 item:=by
  intro X hP hw hK hc i pins s σ H E I hf st hg
  subst hP hw hK
  obtain ⟨xs,x,hq,hx⟩:=hg
  obtain ⟨its,rv,p,hz⟩:=I.tuple hq
  obtain ⟨u,hu,ru⟩:=rv.get hx
  obtain ⟨f0,f1,f2,f3,f4,f5⟩:=hf it (by simp)
  refine wpAny_pyNext_tuple_item st (show s.heap.IsTuple a its.toArray from p) (x:=u) (by simpa using hu) fun h' st' sb=>?_
  have I1 : Inv X pins σ H { s with heap:=h' }:=I.turned (t':=s.toks) (fun b o hb e=>(sb.2 b hb).trans e) f0 f1 f3 f4 f5
  obtain ⟨o,e,c,d⟩:=id st'
  exact ⟨u,rfl,y6J (s:={ s with heap:=h' }) e c d (by decide) ⟨x,H,I1,ru,⟨rfl,fun ys hy=>by rw [I.tuple_inj hy hq]; exact hx⟩,st',fun b hb=>(hf b hb).1⟩⟩
 done:=by
  intro X hP hw hK hc i pins s σ H E I hf st hg
  subst hP hw hK
  obtain ⟨xs,hq,hx⟩:=hg
  obtain ⟨its,rv,p,hz⟩:=I.tuple hq
  obtain ⟨f0,f1,f2,f3,f4,f5⟩:=hf it (by simp)
  have hl:=rv.length
  exact wpAny_pyNext_tuple_end (I.ok.hd hc) st (show s.heap.IsTuple a its.toArray from p) (by simp; omega) fun h' eb=>⟨rfl,I.turned (t':=s.toks) (fun b o hb e=>eb b o hb e) f0 f1 f3 f4 f5⟩
 self:=fun _ _ _ _ _ st h=>wpAny_pyIter_tupleiter st h
theorem y3P {P : Program} {w : World} {K : aa} {tg : Expr} (it : Addr) (lo : Int) (n : Nat) : Turn P w K tg (Itr lo n) [it] it (fun i h=>IsRangeIter h it (lo + (i : Nat) * 1) ((n : Int) - (i : Nat)) 1) where
 mem:=by simp
 obj:=fun i h st b hb=>by
  have e : b=it:=by simpa using hb
  subst e
  exact ⟨_,st,fun v z=>by
   have z' : Data.fields _=Data.cell v:=z
   cases z'⟩
 keep:=fun i h h' st k=>k it (by simp) _ st
 item:=by
  intro X hP hw hK hc i pins s σ H E I hf st hg
  subst hP hw hK
  obtain ⟨f0,f1,f2,f3,f4,f5⟩:=hf it (by simp)
  have W:=Walks.range (prog:=X.prog) (w:=X.w) (I.ok.hd hc) it lo 1 n
  refine W.item i s _ _ hg st fun v h' tk hv st' kk=>?_
  obtain ⟨t,rfl⟩:=hv
  have I1 : Inv X pins σ H { s with heap:=h',toks:=tk }:=I.turned (fun b o hb e=>kk b o (by simpa using hb) e) f0 f1 f3 f4 f5
  refine ⟨_,rfl,y6J (s:={ s with heap:=h',toks:=tk }) (n := "range_iterator") st' rfl rfl (by decide) ⟨.int (lo + i),H,I1,⟨t,?_⟩,⟨rfl,rfl⟩,st',fun b hb=>(hf b hb).1⟩⟩
  rw [Int.mul_one]
 done:=by
  intro X hP hw hK hc i pins s σ H E I hf st hg
  subst hP hw hK
  obtain ⟨f0,f1,f2,f3,f4,f5⟩:=hf it (by simp)
  exact wpAny_pyNext_range_end (I.ok.hd hc) st (by have : n≤i:=hg; omega) fun h' eb=>⟨rfl,I.turned (t':=s.toks) (fun b o hb e=>eb b o hb e) f0 f1 f3 f4 f5⟩
 self:=fun _ _ _ _ _ st h=>wpAny_pyIter_rangeiter st h
end L2
namespace L2
open PySem PySem.Spec PyProof.Rows
section
variable {X : Cx} {tg : Expr}
theorem y2D {pins : List (Addr × Obj)} {σ : St} {H : Hp} {s : Shared} {R : It->Hp->Prop} {E : Value->Shared->Prop} {lo hi : Int} {t u v : Tok} {tk : Nat} (I : Inv X pins σ H s) (h1 : -(2 ^ 62)≤lo) (h2 : lo < 2 ^ 62) (h3 : -(2 ^ 62)≤hi) (h4 : hi < 2 ^ 62)
  (q : R (Itr lo (hi - lo).toNat) H) : wpAny (model X.prog X.w) X.A (pyIter (.ref s.heap.objs.size)) (PIE X pins σ tg R) E { s with heap:=s.heap.push { cls:=.type "range",data:=.fields #[.int lo t,.int hi u,.int 1 v] },toks:=tk }:=by
 refine wpAny_pyIter_range (IsRange.new ..) (small_one h1 h2 h3 h4) ?_
 have I1 : Inv X pins σ H { s with heap:=s.heap.push { cls:=.type "range",data:=.fields #[.int lo t,.int hi u,.int 1 v] },toks:=tk }:=I.kept fun b o e=>Heap.get?_push_of_some _ e
 refine ⟨(s.heap.push { cls:=.type "range",data:=.fields #[.int lo t,.int hi u,.int 1 v] }).objs.size,[(s.heap.push { cls:=.type "range",data:=.fields #[.int lo t,.int hi u,.int 1 v] }).objs.size],_,_,H,rfl,
  I1.kept (t':=tk) fun b o e=>Heap.get?_push_of_some _ e,y3P _ lo (hi - lo).toNat,?_,fun b hb=>?_,q⟩
 ·have e1 : lo + ((0 : Nat) : Int) * 1=lo:=by simp
  have e2 : (((hi - lo).toNat : Nat) : Int) - ((0 : Nat) : Int)=Builtin.Range.rangeSize lo hi 1:=by rw [rangeSize_one]; split <;> omega
  show IsRangeIter _ _ (lo + ((0 : Nat) : Int) * 1) ((((hi - lo).toNat : Nat) : Int) - ((0 : Nat) : Int)) 1
  rw [e1,e2]
  exact Heap.get?_push_size _ rfl
 ·have e : b=(s.heap.push { cls:=.type "range",data:=.fields #[.int lo t,.int hi u,.int 1 v] }).objs.size:=by simpa using hb
  subst e
  exact I1.fpOk (ar _) (I1.hok.fresh (ar _))
def iRng1 (ta : TA) : TI:=fun σ H R=>ta σ H fun vs H1=>∃ j : Int,vs=[.int j]∧-(2 ^ 62)≤j∧j < 2 ^ 62∧R (Itr 0 j.toNat) H1
def iRng2 (ta : TA) : TI:=fun σ H R=>ta σ H fun vs H1=>∃ i j : Int,vs=[.int i,.int j]∧(-(2 ^ 62)≤i∧i < 2 ^ 62∧-(2 ^ 62)≤j∧j < 2 ^ 62)∧R (Itr i (j - i).toNat) H1
theorem y4r {a : Expr} {ta : TA} {p pos : Pos} (hg : Gl X "range") (hm : X.mg "range" = none) (ha : PA X [a] ta) (hs : starEach [a] X.env=[(false,eval a X.env)]:=by rfl) : PI X tg (.Call (.Name "range" p) [a] [] pos) (iRng1 ta):=by
 intro pins s σ H R I h
 refine Call_ (z4O I hg hm boot_range (PyProof.Rows.callWith_type1 (thn (ha pos pins s σ H _ I h) fun us s1 ⟨vs,H1,I1,r1,q1⟩=>?_) hs rfl))
 obtain ⟨j,e,q1,q2,q⟩:=q1
 subst e
 cases r1 with
 | cons r rr=>
  cases rr
  obtain ⟨t,rfl⟩:=r
  exact call_range_1 (y2D I1 (by omega) (by omega) q1 q2 (by simpa using q))
theorem y5M {a b : Expr} {ta : TA} {p pos : Pos} (hg : Gl X "range") (hm : X.mg "range" = none) (ha : PA X [a,b] ta) (hs : starEach [a,b] X.env=[(false,eval a X.env),(false,eval b X.env)]:=by rfl) (hs2 : starEach [b] X.env=[(false,eval b X.env)]:=by rfl) :
  PI X tg (.Call (.Name "range" p) [a,b] [] pos) (iRng2 ta):=by
 intro pins s σ H R I h
 refine Call_ (z4O I hg hm boot_range (PyProof.Rows.callWith_type1 (thn (ha pos pins s σ H _ I h) fun us s1 ⟨vs,H1,I1,r1,q1⟩=>?_) (by rw [hs,hs2]) (by rw [hs2]; rfl)))
 obtain ⟨i,j,e,⟨q1,q2,q3,q4⟩,q⟩:=q1
 subst e
 cases r1 with
 | cons r rr=>
  cases rr with
  | cons r' rr=>
   cases rr
   obtain ⟨t,rfl⟩:=r
   obtain ⟨t',rfl⟩:=r'
   exact call_range_2 (y2D I1 q1 q2 q3 q4 q)
def tFor (wi : TI) (g : TG) (tb : TS) : TS:=fun D σ H=>wi σ H fun J H1=>∃ W : Nat->Nat->St->Hp->Prop,(∃ m,W 0 m σ H1)∧∀ i m σ H,W i m σ H →
 (J.stop i H∧D.nx σ H)∨(J.go i H∧∃ N : St->Hp->Prop,(∀ σ' H',N σ' H'->∃ m',m' < m∧W (i + 1) m' σ' H')∧∀ x H',J.yld i H x H'->g x σ H' fun σ2 H2=>tb { D with nx:=N,ct:=N,bk:=D.nx } σ2 H2)
def z9s (fp : List Addr) (h : Heap) : List (Addr × Obj):=fp.filterMap fun b=>(h.get? b).map fun o=>(b,o)
theorem z4x {fp : List Addr} {h : Heap} {b : Addr} {o : Obj} (hb : b∈fp) (e : h.get? b=some o) : (b,o)∈z9s fp h:=eQ.mpr ⟨b,hb,by rw [e]; rfl⟩
theorem y5U {fp : List Addr} {h : Heap} {p : Addr × Obj} (hp : p∈z9s fp h) : p.1∈fp∧h.get? p.1=some p.2:=by
 obtain ⟨b,hb,e⟩:=eQ.mp hp
 cases q : h.get? b with
 | none=>rw [q] at e; cases e
 | some o=>
  rw [q] at e
  have e' : (b,o)=p:=Option.some.inj e
  subst e'
  exact ⟨hb,q⟩
theorem Inv.pinned {pins : List (Addr × Obj)} {σ : St} {H : Hp} {s : Shared} {fp : List Addr} (I : Inv X pins σ H s) (hf : ∀ b∈fp,y0A X pins H b) (ho : ∀ b∈fp,∃ o,s.heap.get? b=some o∧∀ v,o.data≠.cell v) : Inv X (pins ++ z9s fp s.heap) σ H s:=
 I.pins_of fun p hp=>(ay.mp hp).elim (fun z=>I.pin p (aO _ z)) fun z=>by
  obtain ⟨hb,e⟩:=y5U z
  obtain ⟨f0,f1,f2,_⟩:=hf p.1 hb
  obtain ⟨o,e',d⟩:=ho p.1 hb
  rw [e] at e'; cases e'
  exact ⟨e,f0,f1,f2,d⟩
theorem Inv.unpinned {pins pl : List (Addr × Obj)} {σ : St} {H : Hp} {s : Shared} (I : Inv X (pins ++ pl) σ H s) : Inv X pins σ H s:=I.pins_of fun p hp=>I.pin p (aO _ (br _ hp))
theorem y9P {iter : Expr} {body : List Stmt} {wi : TI} {g : TG} {tb : TS} {pos : Pos} (hp : PassesOwn (model X.prog X.w) X.A X.env X.xe) (hc : X.calm=true) (hi : PI X tg iter wi) (hg : PG X tg g) (hb : PSs X body tb)
  (hs : ∀ x,foldedSetIterable iter X.env x=pure x:=by intro _; rfl) : PS X (.For tg iter body [] pos) (tFor wi g tb):=by
 intro pins s σ H D I h
 refine wpAny_For (thn (hi pins s σ H _ I h) fun v s1 h1=>thn h1 fun itv s2 h2=>?_) hs
 obtain ⟨it,fp,tn,J,H2,e,I2,T,st2,f2,W,⟨m0,w0⟩,turn⟩:=h2
 subst e
 have stat : ∀ {H' : Hp},(∀ b∈fp,H' b=none)->∀ b∈fp,y0A X pins H' b:=fun hn b hb=>⟨hn b hb,(f2 b hb).2⟩
 refine codeAny_forLoop_any (fun n s'=>∃ i σ' H',Inv X pins σ' H' s'∧tn i s'.heap∧(∀ b∈fp,H' b=none)∧W i n σ' H') ?_ m0 ⟨0,σ,H2,I2,st2,fun b hb=>(f2 b hb).1,w0⟩
 rintro n s3 ⟨i,σ3,H3,I3,st3,fr3,w3⟩
 rcases turn i n σ3 H3 w3 with ⟨stop,qn⟩ | ⟨go,N,hN,step⟩
 ·refine wpAny_passesOwn hp (thn (T.done X rfl rfl rfl hc i pins s3 σ3 H3 X.xe I3 (stat fr3) st3 stop) fun r s4 ⟨hr,I4⟩=>?_)
  subst hr
  exact wpAny_execs_nil ⟨σ3,H3,I4,qn⟩
 ·refine wpAny_passesOwn hp (thn (T.item X rfl rfl rfl hc i pins s3 σ3 H3 X.xe I3 (stat fr3) st3 go) fun r s4 ⟨u,hr,h4⟩=>?_)
  subst hr
  refine wpAny_passesOwn hp (thn h4 fun _ s5 ⟨x,H5,I5,r5,y5,st5,fr5⟩=>?_)
  have I5':=I5.pinned (stat fr5) (T.obj _ _ st5)
  refine wpAny_passesOwn hp (thn (hg _ s5 σ3 H5 x u _ I5' r5 (step x H5 y5)) fun _ s6 ⟨σ6,H6,I6,q6⟩=>?_)
  refine wpAny_passesOwn hp (thn (hb _ s6 σ6 H6 _ I6 q6) fun f s7 q7=>?_)
  have again : ∀ {σ7 : St} {H7 : Hp},Inv X (pins ++ z9s fp s5.heap) σ7 H7 s7->N σ7 H7->∃ m,m < n∧∃ i σ' H',Inv X pins σ' H' s7∧tn i s7.heap∧(∀ b∈fp,H' b=none)∧W i m σ' H':=fun {σ7 H7} I7 n7=>by
   obtain ⟨m',hm,w7⟩:=hN σ7 H7 n7
   refine ⟨m',hm,i + 1,σ7,H7,I7.unpinned,T.keep _ _ _ st5 fun b hb o e=>(I7.pin (b,o) (aO _ (aO _ (z4x hb e)))).1,fun b hb=>?_,w7⟩
   obtain ⟨o,e,d⟩:=T.obj _ _ st5 b hb
   exact (I7.pin (b,o) (aO _ (aO _ (z4x hb e)))).2.1
  cases f with
  | next=>obtain ⟨σ7,H7,I7,n7⟩:=q7; exact again I7 n7
  | cont=>obtain ⟨σ7,H7,I7,n7⟩:=q7; exact again I7 n7
  | brk=>obtain ⟨σ7,H7,I7,q7⟩:=q7; exact ⟨σ7,H7,I7.unpinned,q7⟩
  | ret v=>obtain ⟨x7,σ7,H7,I7,r7,q7⟩:=q7; exact ⟨x7,σ7,H7,I7.unpinned,r7,q7⟩
end
end L2
namespace L2
open PySem PySem.Spec PyProof.Rows
abbrev R2:=V->V->Hp->VK->Prop
def OpR (X : Cx) (f : Value->Value->Sem Value) (r : R2) : Prop:=
 ∀ (pins : List (Addr × Obj)) (s : Shared) (σ : St) (H : Hp) (x y : V) (v u : Value) (Q : VK),Inv X pins σ H s->RelV x v->RelV y u->r x y H Q →
  wpAny (model X.prog X.w) X.A (f v u) (EP X pins σ Q) X.xe s
def UnR (X : Cx) (f : Value->Sem Value) (r : V->Hp->VK->Prop) : Prop:=
 ∀ (pins : List (Addr × Obj)) (s : Shared) (σ : St) (H : Hp) (x : V) (v : Value) (Q : VK),Inv X pins σ H s->RelV x v->r x H Q →
  wpAny (model X.prog X.w) X.A (f v) (EP X pins σ Q) X.xe s
def z6S (X : Cx) (f : Value) (r : List V->Hp->VK->Prop) : Prop:=
 ∀ (pins : List (Addr × Obj)) (s : Shared) (σ : St) (H : Hp) (xs : List V) (us : List Value) (Q : VK),Inv X pins σ H s->Vals xs us->r xs H Q →
  wpAny (model X.prog X.w) X.A (call f us) (EP X pins σ Q) X.xe s
def TruR (X : Cx) (r : V->Hp->(Bool->Hp->Prop)->Prop) : Prop:=
 ∀ (pins : List (Addr × Obj)) (s : Shared) (σ : St) (H : Hp) (x : V) (v : Value) (Q : Bool->Hp->Prop),Inv X pins σ H s->RelV x v->r x H Q →
  wpAny (model X.prog X.w) X.A (truthy v) (TP X pins σ Q) X.xe s
def tOp (r : R2) (ta tb : TE) : TE:=fun σ H Q=>ta σ H fun x H1=>tb σ H1 fun y H2=>r x y H2 Q
def tUn (r : V->Hp->VK->Prop) (ta : TE) : TE:=fun σ H Q=>ta σ H fun x H1=>r x H1 Q
def rI (C : Int->Int->Prop) (g : Int->Int->V) : R2:=fun x y H Q=>∃ i j,x = .int i∧y = .int j∧C i j∧Q (g i j) H
def rI0 (g : Int->Int->V) : R2:=fun x y H Q=>∃ i j,x = .int i∧y = .int j∧Q (g i j) H
def rU (g : Int->V) : V->Hp->VK->Prop:=fun x H Q=>∃ i,x = .int i∧Q (g i) H
section
variable {X : Cx} {a b c : Expr} {ta tb tc : TE} {pos : Pos}
theorem binT (ha : PE X a ta) (hb : PE X b tb) {pins : List (Addr × Obj)} {s : Shared} {σ : St} {H : Hp} {R : V->V->Hp->Prop} (I : Inv X pins σ H s)
  (h : ta σ H fun x H1=>tb σ H1 fun y H2=>R x y H2) {Q : Value->Shared->Prop} {f : Value->Value->Sem Value}
  (hf : ∀ v u s2 x y H2,Inv X pins σ H2 s2->RelV x v->RelV y u->R x y H2->wpAny (model X.prog X.w) X.A (f v u) Q X.xe s2) :
  wpAny (model X.prog X.w) X.A (eval a X.env) (fun v s₁=>wpAny (model X.prog X.w) X.A (eval b X.env) (fun u s₂=>wpAny (model X.prog X.w) X.A (f v u) Q X.xe s₂) X.xe s₁) X.xe s:=by
 refine thn (ha pins s σ H _ I h) fun v s1 ⟨x,H1,I1,r1,q1⟩=>?_
 refine thn (hb pins s1 σ H1 _ I1 q1) fun u s2 ⟨y,H2,I2,r2,q2⟩=>?_
 exact hf v u s2 x y H2 I2 r1 r2 q2
theorem pe_op {op : Operator} {r : R2} (ho : OpR X (binaryOp op) r) (ha : PE X a ta) (hb : PE X b tb) : PE X (.BinOp a op b pos) (tOp r ta tb):=by
 intro pins s σ H Q I h
 exact wpAny_BinOp (binT ha hb I h fun v u s2 x y H2 I2 rx ry q=>ho pins s2 σ H2 x y v u Q I2 rx ry q)
theorem pe_un {op : UnaryOp} {r : V->Hp->VK->Prop} (ho : UnR X (unaryOp op) r) (ha : PE X a ta) : PE X (.UnaryOp op a pos) (tUn r ta):=by
 intro pins s σ H Q I h
 exact UnaryOp_ (thn (ha pins s σ H _ I h) fun v s1 ⟨x,H1,I1,r1,q1⟩=>ho pins s1 σ H1 x v Q I1 r1 q1)
theorem opI {f : Value->Value->Sem Value} {C : Int->Int->Prop} {g : Int->Int->Int}
  (rule : ∀ (i j : Int) (t u : Tok) (s : Shared) (Q : Value->Shared->Prop) (E : Value->Shared->Prop),C i j->Q (.int (g i j) s.toks) { s with toks:=s.toks + 1 }->wpAny (model X.prog X.w) X.A (f (.int i t) (.int j u)) Q E s) :
  OpR X f (rI C fun i j=>.int (g i j)):=by
 intro pins s σ H x y v u Q I rx ry h
 obtain ⟨i,j,rfl,rfl,hc,q⟩:=h
 obtain ⟨t,rfl⟩:=rx
 obtain ⟨t',rfl⟩:=ry
 exact rule i j t t' s _ _ hc ⟨.int (g i j),H,I.tok _,⟨_,rfl⟩,q⟩
theorem opI0 {f : Value->Value->Sem Value} {g : Int->Int->Int}
  (rule : ∀ (i j : Int) (t u : Tok) (s : Shared) (Q : Value->Shared->Prop) (E : Value->Shared->Prop),Q (.int (g i j) s.toks) { s with toks:=s.toks + 1 }->wpAny (model X.prog X.w) X.A (f (.int i t) (.int j u)) Q E s) :
  OpR X f (rI0 fun i j=>.int (g i j)):=by
 intro pins s σ H x y v u Q I rx ry h
 obtain ⟨i,j,rfl,rfl,q⟩:=h
 obtain ⟨t,rfl⟩:=rx
 obtain ⟨t',rfl⟩:=ry
 exact rule i j t t' s _ _ ⟨.int (g i j),H,I.tok _,⟨_,rfl⟩,q⟩
theorem opB0 {f : Value->Value->Sem Value} {g : Int->Int->Bool}
  (rule : ∀ (i j : Int) (t u : Tok) (s : Shared) (Q : Value->Shared->Prop) (E : Value->Shared->Prop),Q (.bool (g i j)) s->wpAny (model X.prog X.w) X.A (f (.int i t) (.int j u)) Q E s) :
  OpR X f (rI0 fun i j=>.bl (g i j)):=by
 intro pins s σ H x y v u Q I rx ry h
 obtain ⟨i,j,rfl,rfl,q⟩:=h
 obtain ⟨t,rfl⟩:=rx
 obtain ⟨t',rfl⟩:=ry
 exact rule i j t t' s _ _ ⟨.bl (g i j),H,I,rfl,q⟩
def CDiv (i j : Int) : Prop:=0 < j∧j < 1073741824
def CDivN (i j : Int) : Prop:=j≠0∧j.natAbs < 1073741824
def CPow (i j : Int) : Prop:=0≤j∧j≤1000000∧i.natAbs < 2 ^ 64
def CMul (i j : Int) : Prop:=(-(2 ^ 64) < i∧i < 2 ^ 64)∨(-(2 ^ 64) < j∧j < 2 ^ 64)
theorem CMul.ok {i j : Int} (h : CMul i j) : IntMulOk i j:=by
 rcases h with ⟨h1,h2⟩ | ⟨h1,h2⟩
 ·exact .of_left (intBits_le_64 h1 h2)
 ·exact .of_right (intBits_le_64 h1 h2)
theorem op_add : OpR X (binaryOp .Add) (rI0 fun i j=>.int (i + j)):=opI0 fun _ _ _ _ _ _ _ q=>add_int q
theorem op_mul : OpR X (binaryOp .Mult) (rI CMul fun i j=>.int (i * j)):=opI fun _ _ _ _ _ _ _ hc q=>mul_int q hc.ok
theorem op_fdiv : OpR X (binaryOp .FloorDiv) (rI CDiv fun i j=>.int (i / j)):=opI fun i j _ _ _ _ _ hc q=>by
 have h1 : (0 : Int) < j:=hc.1
 have h2 : j < 1073741824:=hc.2
 exact floordiv_int (by omega) (by rw [Int.fdiv_eq_ediv_of_nonneg i (by omega)]; exact q) (.inl (PyProof.noPylong_small (by omega)))
theorem op_mod : OpR X (binaryOp .Mod) (rI (fun _ j=>0 < j) fun i j=>.int (i % j)):=opI fun i j _ _ _ _ _ hc q=>by
 have h1 : (0 : Int) < j:=hc
 exact mod_int' (by omega) (by rw [Int.fmod_eq_emod_of_nonneg i (by omega)]; exact q)
theorem unI {f : Value->Sem Value} {g : Int->Int}
  (rule : ∀ (i : Int) (t : Tok) (s : Shared) (Q : Value->Shared->Prop) (E : Value->Shared->Prop),Q (.int (g i) s.toks) { s with toks:=s.toks + 1 }->wpAny (model X.prog X.w) X.A (f (.int i t)) Q E s) :
  UnR X f (rU fun i=>.int (g i)):=by
 intro pins s σ H x v Q I rx h
 obtain ⟨i,rfl,q⟩:=h
 obtain ⟨t,rfl⟩:=rx
 exact rule i t s _ _ ⟨.int (g i),H,I.tok _,⟨_,rfl⟩,q⟩
theorem un_neg : UnR X (unaryOp .USub) (rU fun i=>.int (-i)):=unI fun _ _ _ _ _ q=>neg_int q
end
section
variable {X : Cx} {a b c : Expr} {ta tb tc : TE} {pos : Pos}
theorem op_lt : OpR X (compareOp .Lt) (rI0 fun i j=>.bl (decide (i < j))):=opB0 fun _ _ _ _ _ _ _ q=>lt_int q
theorem op_le : OpR X (compareOp .LtE) (rI0 fun i j=>.bl (decide (i≤j))):=opB0 fun _ _ _ _ _ _ _ q=>le_int q
theorem op_gt : OpR X (compareOp .Gt) (rI0 fun i j=>.bl (decide (j < i))):=opB0 fun _ _ _ _ _ _ _ q=>gt_int q
theorem z9P (b : Expr) {op : CmpOp} (h : op≠.In:=by decide) (h2 : op≠.NotIn:=by decide) : behindInMarks op b=false:=by
 have e1 : (op == CmpOp.In)=false:=by cases op <;> first | rfl | exact absurd rfl h
 have e2 : (op == CmpOp.NotIn)=false:=by cases op <;> first | rfl | exact absurd rfl h2
 cases b <;> simp [behindInMarks,e1,e2]
theorem pe_cmpR {op : CmpOp} {r : R2} (ho : OpR X (compareOp op) r) (ha : PE X a ta) (hb : PE X b tb) (hm : behindInMarks op b=false) : PE X (.Compare a [op] [b] pos) (tOp r ta tb):=by
 intro pins s σ H Q I h
 exact wpAny_Compare1 (binT ha hb I h fun v u s2 x y H2 I2 rx ry q=>ho pins s2 σ H2 x y v u Q I2 rx ry q) hm
def tTest (t : TE) : TT:=fun σ H Q=>t σ H fun x H'=>∃ k,x = .bl k∧Q k H'
theorem pt_cmpR {op : CmpOp} {r : R2} (ho : OpR X (compareOp op) r) (ha : PE X a ta) (hb : PE X b tb) (hm : behindInMarks op b=false) : PT X (.Compare a [op] [b] pos) (tTest (tOp r ta tb)):=by
 intro pins s σ H Q I h
 refine wpAny_isTrue_Compare1 (thn (ha pins s σ H _ I h) fun v s1 ⟨x,H1,I1,r1,q1⟩=>thn (hb pins s1 σ H1 _ I1 q1) fun u s2 ⟨y,H2,I2,r2,q2⟩=>
  thn (ho pins s2 σ H2 x y v u _ I2 r1 r2 q2) fun c s3 ⟨z,H3,I3,r3,k,e,q3⟩=>?_) hm
 subst e
 cases r3
 exact wpAny_truthy_bool ⟨H3,I3,q3⟩
def x0G (r r' : R2) (ta tb tc : TE) : TE:=fun σ H Q=>ta σ H fun x H1=>tb σ H1 fun y H2=>r x y H2 fun z H3=>∃ k,z = .bl k ∧
 (if k=true then tc σ H3 fun w' H4=>r' y w' H4 Q else Q (.bl false) H3)
theorem y8B {op op' : CmpOp} {r r' : R2} (ho : OpR X (compareOp op) r) (ho' : OpR X (compareOp op') r') (ha : PE X a ta) (hb : PE X b tb) (hc : PE X c tc)
  (hm : lastMarks [op,op'] [b,c]=false:=by with_unfolding_all rfl) : PE X (.Compare a [op,op'] [b,c] pos) (x0G r r' ta tb tc):=by
 intro pins s σ H Q I h
 refine Compare_chain (thn (ha pins s σ H _ I h) fun v s1 ⟨x,H1,I1,r1,q1⟩=>chain_link (thn (hb pins s1 σ H1 _ I1 q1) fun u s2 ⟨y,H2,I2,r2,q2⟩=>
  thn (ho pins s2 σ H2 x y v u _ I2 r1 r2 q2) fun d s3 ⟨z,H3,I3,r3,k,e,q3⟩=>?_)) hm
 subst e
 cases r3
 refine wpAny_truthy_bool ?_
 cases k with
 | false=>exact ite_ff ⟨.bl false,H3,I3,rfl,q3⟩
 | true=>exact ite_tt (chain_last (thn (hc pins s3 σ H3 _ I3 q3) fun w' s4 ⟨z',H4,I4,r4,q4⟩=>ho' pins s4 σ H4 y z' u w' Q I4 r2 r4 q4))
def TruV (K : aa) (x : V) (H : Hp) (k : Bool) : Prop:=
 match x with
 | .non=>k=false
 | .bl b=>k=b
 | .int i=>k=(i != 0)
 | .str y=>y.length≤sizeLine∧k=((y.length : Int) != 0)
 | .byt y=>y.size≤sizeLine∧k=((y.size : Int) != 0)
 | .ref p=>(∃ xs,SqL K H p xs∧k = !xs.isEmpty)∨(∃ xs,SqT K H p xs∧k = !xs.isEmpty)∨∃ kvs,H p=some (.dK kvs)∧k = !kvs.isEmpty
 | _=>False
theorem y3J {κ : Type} {kvs : List (κ × V)} {vs : List (κ × Value)} (r : KV kvs vs) : (!vs.isEmpty) = !kvs.isEmpty:=by
 cases r <;> rfl
theorem z8d {xs : List V} {its : List Value} (r : Vals xs its) : (!its.toArray.isEmpty) = !xs.isEmpty:=by
 cases r <;> simp
theorem z7N : (sizeLine : Nat) < 2 ^ 63:=by rw [sizeLine_eq]; decide
theorem tru_ok : TruR X (fun x H Q=>∃ k,TruV X.K x H k∧Q k H):=by
 intro pins s σ H x v Q I rx h
 obtain ⟨k,e,q⟩:=h
 have hl:=z7N
 have hs : sizeLine=16777216:=sizeLine_eq
 cases x with
 | non=>
  cases rx
  have e' : k=false:=e
  subst e'
  exact truthy_none ⟨H,I,q⟩
 | bl b=>
  cases rx
  have e' : k=b:=e
  subst e'
  exact wpAny_truthy_bool ⟨H,I,q⟩
 | int i=>
  obtain ⟨t,rfl⟩:=rx
  have e' : k=(i != 0):=e
  subst e'
  exact PySem.P.truthy_int ⟨H,I,q⟩
 | str y=>
  obtain ⟨t,rfl⟩:=rx
  obtain ⟨hy,e'⟩ : y.length≤sizeLine∧k=((y.length : Int) != 0):=e
  subst e'
  exact PySem.P.truthy_str (by omega) ⟨H,I.tok _,q⟩
 | byt y=>
  obtain ⟨t,rfl⟩:=rx
  obtain ⟨hy,e'⟩ : y.size≤sizeLine∧k=((y.size : Int) != 0):=e
  subst e'
  exact PySem.W.truthy_bytes (by omega) ⟨H,I.tok _,q⟩
 | ref p=>
  cases rx
  have e' : (∃ xs,SqL X.K H p xs∧k = !xs.isEmpty)∨(∃ xs,SqT X.K H p xs∧k = !xs.isEmpty)∨∃ kvs,H p=some (.dK kvs)∧k = !kvs.isEmpty:=e
  rcases e' with ⟨xs,hx,e'⟩ | ⟨xs,hx,e'⟩ | ⟨kvs,hx,e'⟩
  ·subst e'
   obtain ⟨its,r,pl,hz⟩:=I.list hx
   have hlen:=r.length
   exact wpAny_truthy_list pl.isList (by simp only [aD]; omega) ⟨H,I.tok _,by rw [z8d r]; exact q⟩
  ·subst e'
   obtain ⟨its,r,pl,hz⟩:=I.tuple hx
   have hlen:=r.length
   exact truthy_tuple pl (by simp only [aD]; omega) ⟨H,I.tok _,by rw [z8d r]; exact q⟩
  ·subst e'
   obtain ⟨hz,hS,vs,r,m⟩ : kvs.length≤sizeLine∧(p == sysModules)=false∧∃ vs,KV kvs vs∧s.heap.DictOf (z1p X.prog X.w) p vs:=I.hok p _ hx
   have hlen : kvs.length=vs.length:=Paired.length r
   exact wpAny_truthy_dict hS m (by omega) ⟨H,I.tok _,by rw [y3J r]; exact q⟩
 | _=>exact (show False from e).elim
theorem y8Z (ha : PE X a ta) (he : ∀ whole,isTrue a X.env whole=(do let v ← whole; standAt a.pos; holding [v] (truthy v))) :
  PT X a (fun σ H Q=>ta σ H fun x H'=>∃ k,TruV X.K x H' k∧Q k H'):=by
 intro pins s σ H Q I h
 exact isTrue_plain (thn (ha pins s σ H _ I h) fun v s1 ⟨x,H1,I1,r1,q1⟩=>tru_ok pins s1 σ H1 x v Q I1 r1 q1) (he _)
theorem y5y {x : V} {us : List Value} (r : Vals [x] us) : ∃ u,us=[u]∧RelV x u:=by
 cases r with
 | cons r1 r2=>cases r2; exact ⟨_,rfl,r1⟩
theorem vals2 {x y : V} {us : List Value} (r : Vals [x,y] us) : ∃ u w',us=[u,w']∧RelV x u∧RelV y w':=by
 cases r with
 | cons r1 r2=>
  cases r2 with
  | cons r3 r4=>cases r4; exact ⟨_,_,rfl,r1,r3⟩
def LenV (K : aa) (x : V) (H : Hp) (n : Nat) : Prop:=
 match x with
 | .str y=>y.length≤sizeLine∧n=y.length
 | .byt y=>y.size≤sizeLine∧n=y.size
 | .ref p=>(∃ xs,SqL K H p xs∧n=xs.length)∨∃ xs,SqT K H p xs∧n=xs.length
 | _=>False
theorem y8O : z6S X (.builtin "len") (fun xs H Q=>∃ x n,xs=[x]∧LenV X.K x H n∧Q (.int n) H):=by
 intro pins s σ H xs us Q I r h
 obtain ⟨x,n,rfl,e,q⟩:=h
 obtain ⟨u,rfl,rx⟩:=y5y r
 have hl:=z7N
 have hs : sizeLine=16777216:=sizeLine_eq
 cases x with
 | str y=>
  obtain ⟨t,rfl⟩:=rx
  obtain ⟨hy,e'⟩ : y.length≤sizeLine∧n=y.length:=e
  subst e'
  exact len_str (by omega) ⟨.int _,H,I.tok _,⟨_,rfl⟩,q⟩
 | byt y=>
  obtain ⟨t,rfl⟩:=rx
  obtain ⟨hy,e'⟩ : y.size≤sizeLine∧n=y.size:=e
  subst e'
  exact PySem.W.len_bytes (by omega) ⟨.int _,H,I.tok _,⟨_,rfl⟩,q⟩
 | ref p=>
  cases rx
  have e' : (∃ xs,SqL X.K H p xs∧n=xs.length)∨∃ xs,SqT X.K H p xs∧n=xs.length:=e
  rcases e' with ⟨xs,hx,e'⟩ | ⟨xs,hx,e'⟩
  ·subst e'
   obtain ⟨its,r',pl,hz⟩:=I.list hx
   have hlen:=r'.length
   exact Calls.call_len_list pl.isList (by simp only [aD]; omega) ⟨.int xs.length,H,I.tok _,⟨_,by simp only [aD]; rw [hlen]⟩,q⟩
  ·subst e'
   obtain ⟨its,r',pl,hz⟩:=I.tuple hx
   have hlen:=r'.length
   exact len_tuple pl (by simp only [aD]; omega) ⟨.int xs.length,H,I.tok _,⟨_,by simp only [aD]; rw [hlen]⟩,q⟩
 | _=>exact (show False from e).elim
end
end L2
namespace L2
open PySem PySem.Spec PyProof.Rows
structure ObjM (h : Heap) (x dx C : Addr) (mA : Str->Option Value) : Prop where
 obj : h.get? x=some (dc C dx)
 ns : h.Ns1 dx mA
 ne : dx≠x
theorem y6u {h : Heap} {dx : Addr} {mA : Str->Option Value} (n : h.Ns1 dx mA) : ∃ od,h.get? dx=some od∧∀ name,dz name od=some (mA name):=by
 obtain ⟨o,es,ep,ho,hd,hk,_,hm⟩:=n
 refine ⟨o,ho,fun name=>?_⟩
 have e:=hm name
 unfold nsFind findBy at e
 rw [← Array.find?_toList] at e
 unfold dz
 rw [hd]
 dsimp only
 split
 ·rename_i y q
  rw [q] at e
  exact congrArg some e
 ·rename_i q
  rw [q] at e
  have a : es.toList.any (·.refKey)=false:=by
   rw [c9]
   intro y hy
   obtain ⟨z,t,hkey⟩:=hk y (Array.mem_toList_iff.mp hy)
   simp [DictEntry.refKey,hkey]
  have a' : ¬ es.toList.any (·.refKey)=true:=by rw [a]; exact ax
  rw [if_neg a']
  exact congrArg some e
theorem ObjM.look {h : Heap} {x dx C : Addr} {mA : Str->Option Value} (I : ObjM h x dx C mA) : ∃ od,cK h x (dc C dx) C (some od)∧∀ name,dz name od=some (mA name):=
 let ⟨od,ho,hl⟩:=y6u I.ns
 ⟨od,⟨I.obj,rfl,rfl,ho⟩,hl⟩
section
variable {prog : Program} {w : World} {A : Around} {E : Value->Shared->Prop} {s : Shared} {K : aa} {x dx C f : Addr} {mA : Str->Option Value} {name : Str} {v : Value}
end
section
variable {P : Program} {w : World} {H H' : Hp} {h h' : Heap} {a C dx : Addr} {fs fs' : List (Str × V)}
theorem ins_get (hok : HOk P w H h) (e : H a=some (.ins C dx fs)) : ∃ mA,ObjM h a dx C mA∧(∀ f,RelO (fs.lookup f) (mA f))∧PySem.Within mA (fs.map (·.1))∧fs.length≤1000∧H dx=some (.own a):=by
 obtain ⟨d,z,ne,ob,mA,n,r,q⟩:=(show ObjOk P w H h a (.ins C dx fs) from hok a _ e)
 exact ⟨mA,⟨ob,n,ne⟩,r,q,z,d⟩
end
structure Cls (K : aa) (C : Addr) : Prop where
 pg : c4 K C Str.empty=true
 hd : eF K C=true
 po : eE K C=true
 sa : aS K (.ref C) "__setattr__" = some (some (.builtin "object.__setattr__"))
theorem Cls.get {K : aa} {C : Addr} (c : Cls K C) (f : Str) : c4 K C f=true:=c.pg
def NoAttr (K : aa) (C : Addr) (f : Str) : Prop:=aS K (.ref C) f=some none
structure Con (K : aa) (C : Addr) (f : Str) (v : V) (u : Value) : Prop where
 at_ : aS K (.ref C) f=some (some u)
 rel : RelV v u
 get : bJ K u "__get__" = some none
 cp : PySem.W.copiedNames.contains f=false
structure Meth (K : aa) (C : Addr) (m : Str) (f : Addr) : Prop where
 at_ : aS K (.ref C) m=some (some (.ref f))
 fn : PySem.W.isFn K (.ref f)=true
 kp : ao K (.ref f)=true
section
variable {X : Cx} {pins : List (Addr × Obj)} {σ : St} {H : Hp} {s : Shared} {a C dx : Addr} {fs : List (Str × V)} {f : Str} {v : V} {A : Around} {E : Value->Shared->Prop}
end
section
variable {X : Cx} {o e value : Expr} {f : Str} {pos pos' tpos : Pos} {ta tv : TE}
end
section
variable {X : Cx} {pins : List (Addr × Obj)} {σ : St} {H : Hp} {s : Shared} {A : Around} {E : Value->Shared->Prop} {Q : Value->Shared->Prop} {c : Value} {b : Bool}
inductive TyOf (K : aa) (H : Hp) : V->Value->Prop where
 | non : TyOf K H .non (.type "NoneType")
 | bl (x : Bool) : TyOf K H (.bl x) (.type "bool")
 | int (i : Int) : TyOf K H (.int i) (.type "int")
 | str (x : Str) : TyOf K H (.str x) (.type "str")
 | flt (x : UInt64) : TyOf K H (.flt x) (.type "float")
 | lst {a : Addr} {xs : List V} (e : H a=some (.lst xs)) : TyOf K H (.ref a) (.type "list")
 | frz {a : Addr} {o : Obj} {xs : List V} (e : H a=some (.frz o (.lst xs))) : TyOf K H (.ref a) (.type "list")
 | tup {a : Addr} {xs : List V} (e : H a=some (.tup xs)) : TyOf K H (.ref a) (.type "tuple")
 | dK {a : Addr} {kvs : List (Key × V)} (e : H a=some (.dK kvs)) : TyOf K H (.ref a) (.type "dict")
 | dT {a : Addr} {kvs : List (List Key × V)} (e : H a=some (.dT kvs)) : TyOf K H (.ref a) (.type "dict")
 | ins {a C dx : Addr} {fs : List (Str × V)} (e : H a=some (.ins C dx fs)) (cl : Cls K C) (ha : aS K (.ref C) "__class__" = some (some (.builtin "object.__class__")))
   (hn : bJ K (.builtin "object.__class__") "__get__" = some (some (.builtin "getset_descriptor.__get__"))) (htk : ce K (.builtin "object.__class__")=some true)
   (hm : bB K C (.type "object")=some true) : TyOf K H (.ref a) (.ref C)
end
end L2
namespace L2
open PySem PySem.Spec PyProof.Rows
structure Room (k : Nat) (A : Around) : Prop where
 hd : A.handled=none
 dp : A.depth + 3 * k + 5 < recursionLimit
 un : A.units + 16 * k + 200 < cLine
theorem Room.mono {j k : Nat} {A : Around} (r : Room k A) (h : j≤k) : Room j A:=⟨r.hd,by have:=r.dp; omega,by have:=r.un; omega⟩
theorem Room.deeper {k : Nat} {A : Around} (r : Room (k + 1) A) (env : Env) : Room k (A.deeper env):=
 ⟨r.hd,by have:=r.dp; show A.depth + 1 + 3 * k + 5 < _; omega,by have:=r.un; show A.units + 3 + 16 * k + 200 < _; omega⟩
theorem Room.depth {k : Nat} {A : Around} (r : Room k A) : A.depth < recursionLimit:=by have:=r.dp; omega
theorem Room.units {k : Nat} {A : Around} (r : Room k A) : A.units + 64 < cLine:=by have:=r.un; omega
def tNil : TA:=fun _ H Q=>Q [] H
def tCons (ta : TE) (tr : TA) : TA:=fun σ H Q=>ta σ H fun x H1=>tr σ H1 fun xs H2=>Q (x :: xs) H2
section
variable {X : Cx} {e : Expr} {es : List Expr} {te : TE} {t : TA} {pos : Pos}
theorem pa_nil : PA X [] tNil:=fun _ _ _ _ H Q I h=>Calls.spliced_nil ⟨[],H,I,.nil,h⟩
theorem z1l (ha : PE X e te) (hr : PA X es t) (hs : starEach (e :: es) X.env=(false,eval e X.env) :: starEach es X.env:=by rfl) : PA X (e :: es) (tCons te t):=by
 intro pos pins s σ H Q I h
 rw [hs]
 show wpAny _ _ (spliced ((false,eval e X.env) :: backTo pos (starEach es X.env))) _ _ s
 refine Calls.spliced_cons (thn (ha pins s σ H _ I h) fun u s1 ⟨x,H1,I1,r1,q1⟩=>?_)
 exact thn (hr pos pins s1 σ H1 _ I1 q1) fun us s2 ⟨xs,H2,I2,r2,q2⟩=>⟨x :: xs,H2,I2,.cons r1 r2,q2⟩
def tTup (t : TA) : TE:=fun σ H Q=>t σ H fun xs H1=>xs.length≤sizeLine∧∀ p,H1 p=none->Q (.ref p) (upd H1 p (.tup xs))
def tLst (t : TA) : TE:=fun σ H Q=>t σ H fun xs H1=>xs.length≤sizeLine∧∀ p,H1 p=none->Q (.ref p) (upd H1 p (.lst xs))
theorem pe_tup {x1} (h : PA X es t) : PE X (.Tuple es x1 pos) (tTup t):=by
 intro pins s σ H Q I hq
 refine wpAny_Tuple_spliced (thn (h pos pins s σ H _ I hq) fun us s1 ⟨xs,H1,I1,r,z,q⟩=>⟨by rw [← r.length]; exact z,?_⟩)
 have hf : H1 s1.heap.objs.size=none:=I1.hok.fresh (ar _)
 refine ⟨.ref s1.heap.objs.size,upd H1 s1.heap.objs.size (.tup xs),I1.laid (t':=s1.toks) (fun b u e=>Heap.get?_push_of_some _ e) (ar _) ?_,rfl,q _ hf⟩
 exact ⟨z,us,r,TupN.new _ _⟩
theorem y5H (h : PA X es t) : PE X (.List es pos) (tLst t):=by
 intro pins s σ H Q I hq
 refine wpAny_List_spliced (thn (h pos pins s σ H _ I hq) fun us s1 ⟨xs,H1,I1,r,z,q⟩=>⟨by rw [← r.length]; exact z,?_⟩)
 have hf : H1 s1.heap.objs.size=none:=I1.hok.fresh (ar _)
 refine ⟨.ref s1.heap.objs.size,upd H1 s1.heap.objs.size (.lst xs),I1.laid (t':=s1.toks) (fun b u e=>Heap.get?_push_of_some _ e) (ar _) ?_,rfl,q _ hf⟩
 exact ⟨z,us,0,r,Heap.get?_push_size _ rfl⟩
end
abbrev Sp:=List V->Hp->VK->XK->Prop
abbrev CXT:=List Env->Hp->Shared->XK->Value->Shared->Prop
structure Env0 (P : Program) (w : World) (K : aa) (mg : Str->Option Value) (base : Heap) (A : Around) (outer : List Env) (s : Shared) (H : Hp) : Prop where
 frames : A.frames=some outer
 mod : Mod K mg base
 bs : ∀ b o,base.get? b=some o->s.heap.get? b=some o∧H b=none
 bsz : base.objs.size≤s.heap.objs.size
 funs : s.heap.FunFrames base outer
 frf : ∀ b∈frs outer,H b=none
 hok : HOk P w H s.heap
 bare : AllBare s.gens
def CE (outer : List Env) (P : Program) (w : World) (H : Hp) (s : Shared) (Q : VK) (u : Value) (s' : Shared) : Prop:=
 ∃ v H',s'.os=s.os∧AllBare s'.gens∧Un (frs outer) [] H H' s.heap s'.heap∧HOk P w H' s'.heap∧RelV v u∧Q v H'
def CR (CX : CXT) (outer : List Env) (P : Program) (w : World) (H : Hp) (s : Shared) (Q : VK) (E : XK) (r : Result) (s' : Shared) : Prop:=
 match r with
 | .ok (.ret u)=>CE outer P w H s Q u s'
 | .ok _=>False
 | .error e=>CX outer H s E e s'
structure FnOk (P : Program) (w : World) (K : aa) (mg : Str->Option Value) (base : Heap) (CX : CXT) (k : Nat) (f : Addr) (fd : FuncData) (ps : List Str) (sp : Sp) : Prop where
 len : ∀ vs H Q E,sp vs H Q E->vs.length=ps.length
 run : ∀ (A : Around) (outer : List Env) (s : Shared) (H : Hp) (args : Args) (us : List Value) (vs : List V) (Q : VK) (E : XK),Room k A->Env0 P w K mg base A outer s H->BindsTo s fd args (ps.zip us)->Vals vs us->sp vs H Q E →
  codeAny (model P w) A (.call (.ref f) args) (CR CX outer P w H s Q E) s
theorem FnOk.imp {P : Program} {w : World} {K : aa} {mg : Str->Option Value} {base : Heap} {CX : CXT} {k : Nat} {f : Addr} {fd : FuncData} {ps : List Str} {sp sp' : Sp} (F : FnOk P w K mg base CX k f fd ps sp)
  (h : ∀ vs H Q E,sp' vs H Q E->sp vs H Q E) : FnOk P w K mg base CX k f fd ps sp':=
 ⟨fun vs H Q E q=>F.len vs H Q E (h _ _ _ _ q),fun A outer s H args us vs Q E hr he hb hv hs=>F.run A outer s H args us vs Q E hr he hb hv (h _ _ _ _ hs)⟩
section
variable {X : Cx} {pins : List (Addr × Obj)} {σ : St} {H : Hp} {s s' : Shared}
theorem Inv.env0 (I : Inv X pins σ H s) : Env0 X.prog X.w X.K X.mg X.base X.A X.stack s H:=
 ⟨I.ok.frames,I.ok.mod,I.bs,aJ I.ok.bsz I.sz,I.stack,I.stkFree,I.hok,I.bare⟩
theorem Inv.after {Q : VK} {u : Value} (I : Inv X pins σ H s) (h : CE X.stack X.prog X.w H s Q u s') : EP X pins σ Q u s':=by
 obtain ⟨v,H',os,bare,un,hok,r,q⟩:=h
 obtain ⟨hh,g,d,t,os'⟩:=s'
 obtain rfl : os'=s.os:=os
 exact ⟨v,H',I.call (h':=hh) (g':=g) (d':=d) (t':=t) (ch:=[]) un hok bare (fun b z=>absurd z (by simp)),r,q⟩
end
def tCall (sp : Sp) (dvs : List V) (E : XK) (t : TA) : TE:=fun σ H Q=>t σ H fun vs H1=>sp (vs ++ dvs) H1 Q E
def Binds (K : aa) (fd : FuncData) (ps : List Str) (ds : List Value) : Prop:=
 ∀ (s : Shared) (us : List Value),K.In s.heap->(us ++ ds).length=ps.length->BindsTo s fd ⟨us,[]⟩ (ps.zip (us ++ ds))
theorem Binds.all {K : aa} {fd : FuncData} {ps : List Str} (h : ∀ us : List Value,us.length=ps.length->bindArgs fd ⟨us,[]⟩=pure (ps.zip us)) : Binds K fd ps []:=fun s us _ hl=>by
 rw [aG] at hl ⊢
 exact .of_eq (h us hl)
def y6s (CX : CXT) (X : Cx) (E : XK) : Prop:=∀ (pins : List (Addr × Obj)) (σ : St) (H : Hp) (s : Shared) (e : Value) (s' : Shared),Inv X pins σ H s->CX X.stack H s E e s'->X.xe e s'
section
variable {X : Cx} {CX : CXT} {k : Nat} {f C : Addr} {fd : FuncData} {ps : List Str} {sp : Sp} {dvs : List V} {ds : List Value} {E : XK} {x m : Str} {p pos apos : Pos} {e o : Expr} {es : List Expr} {ta : TE} {t : TA}
theorem run_fn {pins : List (Addr × Obj)} {σ : St} {H : Hp} {s : Shared} {Q : VK} {us : List Value} {vs : List V} (F : FnOk X.prog X.w X.K X.mg X.base CX k f fd ps sp) (hr : Room k X.A) (hb : Binds X.K fd ps ds) (hd : Vals dvs ds) (hx : y6s CX X E)
  (I : Inv X pins σ H s) (r : Vals vs us) (h : sp (vs ++ dvs) H Q E) : wpAny (model X.prog X.w) X.A (call (.ref f) us) (EP X pins σ Q) X.xe s:=by
 have r2 : Vals (vs ++ dvs) (us ++ ds):=r.append hd
 have hl : (us ++ ds).length=ps.length:=by rw [← r2.length]; exact F.len _ _ _ _ h
 refine wpAny_call (codeAny_mono (F.run X.A X.stack s H ⟨us,[]⟩ (us ++ ds) (vs ++ dvs) Q E hr I.env0 (hb s us I.kIn hl) r2 h) fun r s' hq=>?_)
 cases r with
 | error e=>exact hx pins σ H s e s' I hq
 | ok fl=>
  cases fl with
  | ret u=>exact I.after hq
  | next=>exact False.elim hq
  | brk=>exact False.elim hq
  | cont=>exact False.elim hq
theorem pe_call (F : FnOk X.prog X.w X.K X.mg X.base CX k f fd ps sp) (hr : Room k X.A) (hg : Gl X x) (hm : X.mg x=some (.ref f)) (hk : ao X.K (.ref f)=true) (hb : Binds X.K fd ps ds) (hd : Vals dvs ds) (hx : y6s CX X E)
  (ha : PA X (e :: es) t) (hdb : (x == ("__debug__" : Str))=false:=by decide) (he : starEach (e :: es) X.env=(false,eval e X.env) :: starEach es X.env:=by rfl) (hpl : (backTo pos (starEach es X.env)).any (·.1)=false:=by rfl) :
  PE X (.Call (.Name x p) (e :: es) [] pos) (tCall sp dvs E t):=by
 intro pins s σ H Q I h
 refine wpAny_Call_Name_kw (z7s I hg hm ?_ hdb)
 refine ee (h₀:=X.base) I.ok.mod.kin hk (thn (ha pos pins s σ H _ I h) fun us s1 ⟨vs,H1,I1,r,q⟩=>⟨I1.kIn,?_⟩) he hpl
 exact run_fn F hr hb hd hx I1 r q
structure Mk (K : aa) (C f : Addr) : Prop where
 makes : PySem.W.makesIn K C=true
 init : aS K (.ref C) "__init__" = some (some (.ref f))
 fn : PySem.W.isFn K (.ref f)=true
 kp : ao K (.ref C)=true
end
section
variable {X : Cx} {CX : CXT} {k : Nat} {f C : Addr} {fd : FuncData} {ps ks : List Str} {sp : Sp} {E : XK} {x m : Str} {p pos apos kpos : Pos} {e o : Expr} {es : List Expr} {kws : List Keyword} {te ta : TE} {t tk : TA} {nm : Option Str}
structure KBinds (K : aa) (fd : FuncData) (ps ks : List Str) (g : List Value->List Value->List Value) (gV : List V->List V->List V) : Prop where
 to : ∀ (s : Shared) (us ws : List Value),K.In s.heap->(g us ws).length=ps.length->BindsTo s fd ⟨us,ks.zip ws⟩ (ps.zip (g us ws))
 rel : ∀ {vs : List V} {us : List Value} {zs : List V} {ws : List Value},Vals vs us->Vals zs ws->Vals (gV vs zs) (g us ws)
variable {g : List Value->List Value->List Value} {gV : List V->List V->List V}
end
structure FnScope (N P : List Str) (sc : Scope) : Prop where
 kind : sc.kind = .function
 co : sc.isCoroutine=false
 gen : sc.isGenerator=false
 nd : N.Nodup
 pre : N.take P.length=P
 par : ∀ x∈P,sc.names.lookup x=some .local∨sc.names.lookup x=some .cell
 nofree : ∀ y∈sc.names,y.2≠.free
theorem z9y {kindOf : Str->Option NameKind} {x : Str} : ∀ {binds : List (Str × Value)} {m : Str->Option Value},(∀ v,(x,v) ∉ binds)->bindL kindOf binds m x=m x
 | [],_,_=>rfl
 | (n,v) :: r,m,h=>by
  unfold bindL
  rw [z9y fun w hw=>h w (af _ hw)]
  split
  ·have : x≠n:=by rintro rfl; exact h v ac
   simp [this]
  ·rfl
theorem y0k {kindOf : Str->Option NameKind} {x : Str} : ∀ {binds : List (Str × Value)} {m : Str->Option Value},(∀ v,(x,v) ∉ binds)->bindC kindOf binds m x=m x
 | [],_,_=>rfl
 | (n,v) :: r,m,h=>by
  unfold bindC
  rw [y0k fun w hw=>h w (af _ hw)]
  split
  ·rfl
  ·have : x≠n:=by rintro rfl; exact h v ac
   simp [this]
theorem y0m {kindOf : Str->Option NameKind} {x : Str} {v : Value} : ∀ {P : List Str} {vs : List Value} {i : Nat} {m : Str->Option Value},P.Nodup->P[i]? = some x->vs[i]? = some v->kindOf x=some .local →
  bindL kindOf (P.zip vs) m x=some v
 | [],_,_,_,_,h,_,_=>by simp at h
 | _ :: _,[],_,_,_,_,h,_=>by simp at h
 | p :: P,w :: vs,0,m,nd,h1,h2,hk=>by
  simp at h1 h2; subst h1; subst h2
  show bindL kindOf ((p,w) :: P.zip vs) m p=_
  unfold bindL
  rw [z9y fun v hv=>(aE.mp nd).1 (dE hv).1,if_pos hk]
  simp
 | p :: P,w :: vs,i + 1,m,nd,h1,h2,hk=>by
  show bindL kindOf ((p,w) :: P.zip vs) m x=_
  unfold bindL
  exact y0m (i:=i) (aE.mp nd).2 (by simpa using h1) (by simpa using h2) hk
theorem z9o {kindOf : Str->Option NameKind} {x : Str} {v : Value} : ∀ {P : List Str} {vs : List Value} {i : Nat} {m : Str->Option Value},P.Nodup->P[i]? = some x->vs[i]? = some v->kindOf x≠some .local →
  bindC kindOf (P.zip vs) m x=some v
 | [],_,_,_,_,h,_,_=>by simp at h
 | _ :: _,[],_,_,_,_,h,_=>by simp at h
 | p :: P,w :: vs,0,m,nd,h1,h2,hk=>by
  simp at h1 h2; subst h1; subst h2
  show bindC kindOf ((p,w) :: P.zip vs) m p=_
  unfold bindC
  rw [y0k fun v hv=>(aE.mp nd).1 (dE hv).1,if_neg hk]
  simp
 | p :: P,w :: vs,i + 1,m,nd,h1,h2,hk=>by
  show bindC kindOf ((p,w) :: P.zip vs) m x=_
  unfold bindC
  exact z9o (i:=i) (aE.mp nd).2 (by simpa using h1) (by simpa using h2) hk
def z4I (N : List Str) (vs : List V) : St:=vs.map some ++ ae (N.length - vs.length) none
def z8l (CX : CXT) (P : Program) (w : World) (K : aa) (mg : Str->Option Value) (base : Heap) (N : List Str) (qual : Str) (scope : Scope) (f : Addr) (cd : Value) (A : Around) (outer : List Env) (s : Shared) (H : Hp) (E : XK) : Cx where
 prog:=P
 w:=w
 K:=K
 mg:=mg
 base:=base
 A:=A.deeper (envOfC qual scope s.heap.objs.size f cd)
 N:=N
 s₀:=s
 H₀:=H
 env:=envOfC qual scope s.heap.objs.size f cd
 outer:=outer
 stack:=envOfC qual scope s.heap.objs.size f cd :: outer
 ex:=[]
 calm:=true
 fn:=fun _=>true
 pn:=[]
 xe:=fun e s'=>wpAny (model P w) (A.deeper (envOfC qual scope s.heap.objs.size f cd)) (leaving (envOfC qual scope s.heap.objs.size f cd) e) (fun _ s''=>CX outer H s E e s'') (fun e' s''=>CX outer H s E e' s'') s'
theorem y2u {sc : Scope} {n : Nat} {x : Str} (h : sc.names.lookup x=some .cell) : ∃ c,(cellsFrom n sc.names []).lookup x=some c:=by
 have q:=dN sc.names n [] (.inl h)
 exact cD.mp q
theorem y6t {CX : CXT} {P : Program} {w : World} {K : aa} {mg : Str->Option Value} {base : Heap} {N ps : List Str} {qual : Str} {scope : Scope} {f : Addr} {cd : Value} {A : Around} {outer : List Env} {s s1 : Shared} {H : Hp} {E : XK} {us : List Value} {vs : List V}
  (S : FnScope N ps scope) (hd : A.handled=none) (e0 : Env0 P w K mg base A outer s H) (hl : vs.length=ps.length) (r : Vals vs us)
  (x : InCallC s s.heap.objs.size (bindL (envOfC qual scope s.heap.objs.size f cd).kindOf (ps.zip us) fun _=>none) (cellsFrom (s.heap.objs.size + 1) scope.names []) (bindC (envOfC qual scope s.heap.objs.size f cd).kindOf (ps.zip us) fun _=>none) s1) :
  Inv (z8l CX P w K mg base N qual scope f cd A outer s H E) [] (z4I N vs) H s1:=by
 have hpl : ps.length≤N.length:=by have:=congrArg List.length S.pre; rw [dq] at this; omega
 obtain ⟨h1,tk,rfl,hk⟩:=x.done
 have noA : ∀ b : Addr,b ∉ (z8l CX P w K mg base N qual scope f cd A outer s H E).ex:=fun b z=>absurd (show b∈([] : List Addr) from z) (by simp)
 refine ⟨⟨e0.mod,S.kind,rfl,rfl,ar _,fun y z c h1 h2=>?_,fun y hy=>?_,fun y c _ h=>?_,fun _=>hd,Around.frames_deeper e0.frames,.inr ⟨rfl,rfl⟩,fun b z=>absurd z (noA b),e0.bs,e0.bsz,fun b _ _=>noA b,fun b z=>absurd z (noA b),e0.funs,e0.frf⟩,
  rfl,e0.bare,Un.kept hk,⟨_,x.toInCall.ns,fun i y v h1 h2 h3=>?_⟩,fun y c h=>⟨_,x.cell y c h⟩,e0.hok.fresh (ar _),fun y c h=>?_,fun p hp=>absurd (show p∈([] : List (Addr × Obj)) from hp) (by simp),e0.hok.kept hk,?_⟩
 ·exact name_of_addr x.apart (PySem.mem_of_lookup h1) (PySem.mem_of_lookup h2)
 ·have hy : scope.names.lookup y=some .cell∨scope.names.lookup y=some .free:=hy
  rcases hy with hy | hy
  ·exact y2u hy
  ·exact absurd rfl (S.nofree _ (PySem.mem_of_lookup hy))
 ·exact bV (x.above y c (PySem.mem_of_lookup h))
 ·have hi : i < vs.length:=by
   unfold z4I at h2
   by_cases hi : i < vs.length
   ·exact hi
   ·rw [be (by simpa using hi)] at h2
    rw [bv] at h2
    split at h2 <;> cases h2
  have ha : vs[i]? = some v:=by
   unfold z4I at h2
   rw [aY (by simpa using hi),aN] at h2
   cases e : vs[i]? with
   | none=>rw [e] at h2; cases h2
   | some a=>rw [e] at h2; cases h2; rfl
  obtain ⟨u,hu,rv⟩:=r.get ha
  have hp : ps[i]? = some y:=by
   rw [← S.pre,List.getElem?_take_of_lt (by omega)]; exact h1
  have ndP : ps.Nodup:=by rw [← S.pre]; exact S.nd.sublist (List.take_sublist _ _)
  refine ⟨u,rv,?_⟩
  rcases S.par y (eK hp) with k | k
  ·exact .inl ⟨k,y0m ndP hp hu k⟩
  ·obtain ⟨c,e⟩:=y2u (n:=s.heap.objs.size + 1) k
   refine .inr ⟨.inl k,c,e,?_⟩
   have q:=x.cell y c e
   rw [z9o ndP hp hu (by show scope.names.lookup y≠_; rw [k]; decide)] at q
   exact q
 ·exact e0.hok.fresh (bV (x.above y c (PySem.mem_of_lookup h)))
 ·unfold z4I
  show _=N.length
  rw [aH,aq,ez]
  omega
theorem fn_of {CX : CXT} {P : Program} {w : World} {K : aa} {mg : Str->Option Value} {base : Heap} {k : Nat} {f : Addr} {name qual : Str} {params : Arguments} {body : List Stmt} {scope : Scope} {dV kV doc pm cdv ct oc : Value} {an od : Option Addr}
  {osl : Array (Option Value)} {N ps : List Str} {sp : Sp} (lk : K.lookup f=some ⟨oc,od,.func (aA name qual params body scope dV kV doc pm an cdv ct),osl⟩) (hcd : aw K cdv qual=true) (S : FnScope N ps scope)
  (len : ∀ vs H Q E,sp vs H Q E->vs.length=ps.length)
  (hbody : ∀ (A : Around) (outer : List Env) (s : Shared) (H : Hp) (vs : List V) (Q : VK) (E : XK),Room k (A.deeper (envOfC qual scope s.heap.objs.size f cdv))->sp vs H Q E →
   ∃ t,PSs (z8l CX P w K mg base N qual scope f cdv A outer s H E) body t∧t { nx:=fun _ H'=>Q .non H',rt:=Q } (z4I N vs) H) :
  FnOk P w K mg base CX (k + 1) f (aA name qual params body scope dV kV doc pm an cdv ct) ps sp:=by
 refine ⟨len,fun A outer s H args us vs Q E hr e0 hb r hsp=>?_⟩
 have hl:=len _ _ _ _ hsp
 have KX : K.In s.heap:=e0.mod.kin.keeps fun b o e=>(e0.bs b o e).1
 have lim : s.heap.NoLimit:=e0.mod.nolimit.keeps fun b o e=>(e0.bs b o e).1
 have hkind : ∀ y∈ps.zip us,scope.names.lookup y.1=some .local∨(scope.names.lookup y.1=some .cell∧((cellsFrom (s.heap.objs.size + 1) scope.names []).lookup y.1).isSome=true):=fun ⟨n,v⟩ hy=>by
  rcases S.par n (dE hy).1 with q | q
  ·exact .inl q
  ·exact .inr ⟨q,dN _ _ _ (.inl q)⟩
 refine codeAny_call_function hr.depth (KX _ _ lk) rfl S.co S.gen rfl (PySem.W.codeRec_of KX hcd) (hb _ _ _ _ ?_)
 refine wpAny_newFunctionEnv_cells S.kind hkind fun env he s1 x=>?_
 subst he
 refine ⟨lim.keeps x.toInCall.keep,codeAny_func ?_⟩
 obtain ⟨t,ht,hq⟩:=hbody A outer s H vs Q E (hr.deeper _) hsp
 have I : Inv (z8l CX P w K mg base N qual scope f cdv A outer s H E) [] (z4I N vs) H s1:=y6t S hr.hd e0 hl r x
 refine wpAny_mono (ht [] s1 (z4I N vs) H _ I hq) (fun fl s' hs=>?_) fun e s' hs=>hs
 have fin : ∀ {σ' : St} {H' : Hp} {v : V} {u : Value},Inv (z8l CX P w K mg base N qual scope f cdv A outer s H E) [] σ' H' s'->RelV v u->Q v H'->CE outer P w H s Q u s':=
  fun {σ' H' v u} J rv q=>⟨v,H',J.os,J.bare,J.base,J.hok,rv,q⟩
 cases fl with
 | ret u=>
  obtain ⟨v,σ',H',J,rv,q⟩:=hs
  exact fin J rv q
 | next=>
  obtain ⟨σ',H',J,q⟩:=hs
  exact fin (v:=V.non) (u:=Value.none) J rfl q
 | brk=>
  obtain ⟨_,_,_,q⟩:=hs
  exact False.elim q
 | cont=>
  obtain ⟨_,_,_,q⟩:=hs
  exact False.elim q
end L2
namespace L2
open PySem PySem.Spec PyProof.Rows
section
variable {X : Cx} {x : Str} {p pos : Pos} {e : Expr} {es : List Expr} {t : TA} {id T : String} {r : List V->Hp->VK->Prop}
def tCB (r : List V->Hp->VK->Prop) (t : TA) : TE:=fun σ H Q=>t σ H fun vs H1=>r vs H1 Q
theorem z6B (hc : z6S X (.builtin id) r) (hg : Gl X x) (hm : X.mg x=none) (hv : bootBuiltins x=some (.builtin id)) (ha : PA X (e :: es) t) (hn : x ≠ "__name__" := by decide) (hdb : (x == ("__debug__" : Str))=false:=by decide)
  (he : starEach (e :: es) X.env=(false,eval e X.env) :: starEach es X.env:=by rfl) (hpl : (backTo pos (starEach es X.env)).any (·.1)=false:=by rfl) : PE X (.Call (.Name x p) (e :: es) [] pos) (tCB r t):=by
 intro pins s σ H Q I h
 refine wpAny_Call_Name_kw (z4O I hg hm hv ?_ hn hdb)
 exact PyProof.Rows.callWith_builtin1 (thn (ha pos pins s σ H _ I h) fun us s1 ⟨vs,H1,I1,r1,q1⟩=>hc pins s1 σ H1 vs us Q I1 r1 q1) he hpl
theorem z9w (hc : z6S X (.type T) r) (hg : Gl X x) (hm : X.mg x=none) (hv : bootBuiltins x=some (.type T)) (ha : PA X (e :: es) t) (hn : x ≠ "__name__" := by decide) (hdb : (x == ("__debug__" : Str))=false:=by decide)
  (he : starEach (e :: es) X.env=(false,eval e X.env) :: starEach es X.env:=by rfl) (hpl : (backTo pos (starEach es X.env)).any (·.1)=false:=by rfl) : PE X (.Call (.Name x p) (e :: es) [] pos) (tCB r t):=by
 intro pins s σ H Q I h
 refine wpAny_Call_Name_kw (z4O I hg hm hv ?_ hn hdb)
 exact PyProof.Rows.callWith_type1 (thn (ha pos pins s σ H _ I h) fun us s1 ⟨vs,H1,I1,r1,q1⟩=>hc pins s1 σ H1 vs us Q I1 r1 q1) he hpl
end
end L2
namespace HT
open PySem PyProof.Rows
section
open PySem.SeqAt
open PySem.AutoSeq1 (wpAny_loadPart')
open PySem.MeetsSeq PySem.MeetsSeq2 PySem.MeetsSeq3
end
section
variable {prog : Program} {w : World} {A : Around} {E : Value->Shared->Prop} {s : Shared}
def sIx (n d : Nat) : Option Int->Nat
 | none=>d
 | some v=>if v < 0 then (v + (n : Int)).toNat else min v.toNat n
end
end HT
namespace L2
open PySem PySem.Spec PyProof.Rows
abbrev TO:=St->Hp->(Option Int->Hp->Prop)->Prop
def PO (X : Cx) (e : Option Expr) (t : TO) : Prop:=
 ∀ (pins : List (Addr × Obj)) (s : Shared) (σ : St) (H : Hp) (Q : Option Int->Hp->Prop),Inv X pins σ H s->t σ H Q →
  wpAny (model X.prog X.w) X.A (evalPart e X.env) (fun u s'=>∃ o H',Inv X pins σ H' s'∧IsPart u o∧Q o H') X.xe s
def tNoPart : TO:=fun _ H Q=>Q none H
def tPart (t : TE) : TO:=fun σ H Q=>t σ H fun x H1=>∃ i,x = .int i∧Q (some i) H1
theorem y3r {ns : List Int} : ∀ {us : List Value},Vals (ns.map V.int) us->IntsAre us ns:=by
 induction ns with
 | nil=>intro us r; rw [c7] at r; cases r; exact .nil
 | cons n ns ih=>
  intro us r
  rw [aM] at r
  cases r with
  | cons r1 r2=>
   obtain ⟨t,e⟩:=r1
   subst e
   exact .cons n t (ih r2)
section
variable {X : Cx} {e : Expr} {te : TE} {lo hi : Option Expr} {tl th : TO} {pos p2 : Pos}
theorem po_none : PO X none tNoPart:=by
 intro pins s σ H Q I h
 rw [evalPart_none]
 exact wpAny_pure ⟨none,H,I,.none,h⟩
theorem po_some (h : PE X e te) : PO X (some e) (tPart te):=by
 intro pins s σ H Q I hw
 rw [evalPart_some]
 refine thn (h pins s σ H _ I hw) fun u s1 ⟨x,H1,I1,r1,q1⟩=>?_
 obtain ⟨i,rfl,q⟩:=q1
 obtain ⟨t,rfl⟩:=r1
 exact ⟨some i,H1,I1,.int i t,q⟩
def SlR (X : Cx) (r : V->Option Int->Option Int->Hp->VK->Prop) : Prop:=
 ∀ (pins : List (Addr × Obj)) (s : Shared) (σ : St) (H : Hp) (x : V) (v vl vu : Value) (lo hi : Option Int) (sl : Addr) (Q : VK),Inv X pins σ H s->RelV x v->s.heap.IsSliceOf sl vl vu .none->IsPart vl lo->IsPart vu hi->r x lo hi H Q →
  ∃ T id,typeLookup (.type T) "__getitem__" = pure (some (.builtin id))∧s.TypeIs v T∧wpAny (model X.prog X.w) X.A (getItem v (.ref sl)) (EP X pins σ Q) X.xe s
def tSl (r : V->Option Int->Option Int->Hp->VK->Prop) (te : TE) (tl th : TO) : TE:=fun σ H Q=>te σ H fun x H1=>tl σ H1 fun l H2=>th σ H2 fun u H3=>r x l u H3 Q
theorem y7S {r : V->Option Int->Option Int->Hp->VK->Prop} (hr : SlR X r) (he : PE X e te) (hl : PO X lo tl) (hu : PO X hi th) : PE X (.Subscript e (.Slice lo hi none p2) pos) (tSl r te tl th):=by
 intro pins s σ H Q I h
 refine Subscript_ (thn (he pins s σ H _ I h) fun v s1 ⟨x,H1,I1,r1,q1⟩=>?_)
 refine wpAny_Slice (thn (hl pins s1 σ H1 _ I1 q1) fun vl s2 ⟨l,H2,I2,pl,q2⟩=>thn (hu pins s2 σ H2 _ I2 q2) fun vu s3 ⟨u,H3,I3,pu,q3⟩=>?_)
 rw [evalPart_none]
 refine wpAny_pure ?_
 have I4 : Inv X pins σ H3 { s3 with heap:=s3.heap.push { cls:=.type "slice",data:=.fields #[vl,vu,.none] } }:=I3.kept (t':=s3.toks) fun b ob q=>Heap.get?_push_of_some _ q
 obtain ⟨T,id,hT,ht,hg⟩:=hr pins { s3 with heap:=s3.heap.push { cls:=.type "slice",data:=.fields #[vl,vu,.none] } } σ H3 x v vl vu l u s3.heap.objs.size Q I4 r1 (Heap.IsSliceOf.new ..) pl pu q3
 show wpAny (model X.prog X.w) X.A (subscriptTail e (.Slice lo hi none p2) v (.ref s3.heap.objs.size)) (EP X pins σ Q) X.xe { s3 with heap:=s3.heap.push { cls:=.type "slice",data:=.fields #[vl,vu,.none] } }
 exact tail_any (ops:=[.ref s3.heap.objs.size,v]) ht hT hg (by with_unfolding_all rfl)
def cutV (xs : List V) (lo hi : Option Int) : List V:=(xs.drop (HT.sIx xs.length 0 lo)).take (HT.sIx xs.length xs.length hi - HT.sIx xs.length 0 lo)
theorem y0E (xs : List V) (lo hi : Option Int) : (cutV xs lo hi).length≤xs.length:=by
 unfold cutV
 rw [dq,dv]
 omega
end
end L2
namespace L2
open PySem PySem.Spec PyProof.Rows
def ixN (n : Nat) (i : Int) : Option Nat:=if 0≤i then (if i < n then some i.toNat else none) else if -(n : Int)≤i then some (i + n).toNat else none
def atI {α : Type} (xs : List α) (i : Int) : Option α:=(ixN xs.length i).bind fun j=>xs[j]?
theorem y6p {n : Nat} {i : Int} {j : Nat} (h : ixN n i=some j) : seqIndex? i n=some j∧j < n∧-(n : Int)≤i∧i < n:=by
 unfold ixN at h
 by_cases h0 : 0≤i
 ·rw [if_pos h0] at h
  by_cases h1 : i < n
  ·rw [if_pos h1] at h
   have e : i.toNat=j:=Option.some.inj h
   exact ⟨by rw [seqIndex_of h0 h1,e],by omega,by omega,h1⟩
  ·rw [if_neg h1] at h; cases h
 ·rw [if_neg h0] at h
  by_cases h1 : -(n : Int)≤i
  ·rw [if_pos h1] at h
   have e : (i + n).toNat=j:=Option.some.inj h
   exact ⟨by rw [seqIndex_neg (by omega) h1,e],by omega,h1,by omega⟩
  ·rw [if_neg h1] at h; cases h
theorem y1j {α : Type} {xs : List α} {i : Int} {v : α} (h : atI xs i=some v) : ∃ j,seqIndex? i xs.length=some j∧xs[j]? = some v∧j < xs.length∧-(xs.length : Int)≤i∧i < xs.length:=by
 unfold atI at h
 cases e : ixN xs.length i with
 | none=>rw [e] at h; cases h
 | some j=>
  rw [e] at h
  obtain ⟨h1,h2,h3,h4⟩:=y6p e
  exact ⟨j,h1,h,h2,h3,h4⟩
theorem z1q {α : Type} {xs : List α} {j : Nat} {v : α} (h : xs[j]? = some v) : atI xs (j : Int)=some v:=by
 have hj : j < xs.length:=(aU.mp h).1
 have e : ixN xs.length (j : Int)=some j:=by
  unfold ixN
  rw [if_pos (by omega),if_pos (by omega)]; simp
 unfold atI; rw [e]; exact h
def z7a (b : Expr) : Prop:=∀ o i,subscripted b false o i=operate [o,i] (getItem o i)
def IxR (X : Cx) (r : R2) : Prop:=
 ∀ (value slice : Expr) (pins : List (Addr × Obj)) (s : Shared) (σ : St) (H : Hp) (x y : V) (v u : Value) (Q : VK),Inv X pins σ H s->RelV x v->RelV y u->r x y H Q →
  subscripted slice false v u=operate [v,u] (getItem v u)->wpAny (model X.prog X.w) X.A (subscriptTail value slice v u) (EP X pins σ Q) X.xe s
def MtR (X : Cx) (id : String) (r : V->List V->Hp->VK->Prop) : Prop:=
 ∀ (pins : List (Addr × Obj)) (s : Shared) (σ : St) (H : Hp) (x : V) (xs : List V) (v : Value) (us : List Value) (Q : VK),Inv X pins σ H s->RelV x v->Vals xs us->r x xs H Q →
  wpAny (model X.prog X.w) X.A (call (.builtin id) (v :: us)) (EP X pins σ Q) X.xe s
section
variable {X : Cx} {a b : Expr} {ta tb : TE} {pos : Pos}
theorem IxR.or {r r' : R2} (h : IxR X r) (h' : IxR X r') : IxR X (fun x y H Q=>r x y H Q∨r' x y H Q):=by
 intro value slice pins s σ H x y v u Q I rx ry q hs
 rcases q with q | q
 ·exact h value slice pins s σ H x y v u Q I rx ry q hs
 ·exact h' value slice pins s σ H x y v u Q I rx ry q hs
theorem y8M {r : R2} (hr : IxR X r) (ha : PE X a ta) (hb : PE X b tb) (hs : z7a b) : PE X (.Subscript a b pos) (tOp r ta tb):=by
 intro pins s σ H Q I h
 exact Subscript_ (binT ha hb I h fun v u s2 x y H2 I2 rx ry q=>hr a b pins s2 σ H2 x y v u Q I2 rx ry q (hs _ _))
def rIxL (K : aa) : R2:=fun x y H Q=>∃ p xs i v,x = .ref p∧y = .int i∧SqL K H p xs∧atI xs i=some v∧Q v H
def rIxT (K : aa) : R2:=fun x y H Q=>∃ p xs i v,x = .ref p∧y = .int i∧SqT K H p xs∧atI xs i=some v∧Q v H
def rIxS : R2:=fun x y H Q=>∃ z i c,x = .str z∧y = .int i∧z.length≤sizeLine∧atI z.cps.toList i=some c∧Q (.str ⟨#[c]⟩) H
theorem ix_list : IxR X (rIxL X.K):=by
 intro value slice pins s σ H x y v u Q I rx ry h hs
 obtain ⟨p,xs,i,z,rfl,rfl,hq,he,q⟩:=h
 cases rx
 obtain ⟨t,rfl⟩:=ry
 obtain ⟨its,r,pl,hz⟩:=I.list hq
 obtain ⟨j,h1,h2,h3,h4,h5⟩:=y1j he
 obtain ⟨w,ew,rw'⟩:=r.get h2
 have hl:=r.length
 have hn:=z7N
 have fin : EP X pins σ Q w s:=⟨z,H,I,rw',q⟩
 by_cases h0 : 0≤i
 ·have hj : i.toNat=j:=by
   rw [seqIndex_of h0 h5] at h1
   exact Option.some.inj h1
  exact item_listR pl.isList h0 (by omega) (by rw [hj]; simpa using ew) fin hs
 ·have hj : (i + (its.toArray.size : Int)).toNat=j:=by
   rw [seqIndex_neg (by omega) h4] at h1
   rw [aD,← hl]
   exact Option.some.inj h1
  exact subscriptTail_builtinR (x:=w) pl.isList.typeIs slot_list_getitem.lookup
   (wpAny_getItem_list_neg (Q:=fun r s'=>r=w∧EP X pins σ Q r s') pl.isList (by omega) (by rw [aD] <;> omega) (by omega) (by rw [hj]; simpa using ew) ⟨rfl,fin⟩) hs
theorem ix_tup : IxR X (rIxT X.K):=by
 intro value slice pins s σ H x y v u Q I rx ry h hs
 obtain ⟨p,xs,i,z,rfl,rfl,hq,he,q⟩:=h
 cases rx
 obtain ⟨t,rfl⟩:=ry
 obtain ⟨its,r,pl,hz⟩:=I.tuple hq
 obtain ⟨j,h1,h2,h3,h4,h5⟩:=y1j he
 obtain ⟨w,ew,rw'⟩:=r.get h2
 have hl:=r.length
 have hn:=z7N
 have fin : EP X pins σ Q w s:=⟨z,H,I,rw',q⟩
 exact subscriptTail_builtinR (x:=w) pl.typeIs slot_tuple_getitem.lookup
  (getItem_tuple (j:=j) (Q:=fun r s'=>r=w∧EP X pins σ Q r s') pl (by omega) (by omega) (by rw [aD,← hl]; exact h1) (by simpa using ew) ⟨rfl,fin⟩) hs
theorem ix_str : IxR X rIxS:=by
 intro value slice pins s σ H x y v u Q I rx ry h hs
 obtain ⟨z,i,c,rfl,rfl,hz,he,q⟩:=h
 obtain ⟨t,rfl⟩:=rx
 obtain ⟨t',rfl⟩:=ry
 obtain ⟨j,h1,h2,h3,h4,h5⟩:=y1j he
 have hl : z.cps.toList.length=z.length:=by simp [Str.length]
 rw [hl] at h1 h4 h5
 have hn:=z7N
 exact tail_any (typeIs_str s z t) slot_str_getitem.lookup (getItem_str (c:=c) (by
  have e1 : decide (i < -(2 ^ 63 : Int))=false:=decide_eq_false (by omega)
  have e2 : decide (i ≥ 2 ^ 63)=false:=decide_eq_false (by omega)
  rw [e1,e2,dU]) (by rw [h1]; simpa using h2) ⟨.str ⟨#[c]⟩,H,I.tok _,⟨_,rfl⟩,q⟩) hs
def rIx (K : aa) : R2:=fun x y H Q=>rIxL K x y H Q∨rIxT K x y H Q∨rIxS x y H Q
theorem y7n : IxR X (rIx X.K):=ix_list.or (ix_tup.or ix_str)
theorem y4e (its : List Value) (n j : Nat) (u : Value) : Obj.mapSeq (·.setIfInBounds j u) { cls:=.type "list",data:=.seq its.toArray n } = { cls:=.type "list",data:=.seq (its.set j u).toArray n }:=by
 simp [Obj.mapSeq]
theorem Inv.lst {pins : List (Addr × Obj)} {σ : St} {H : Hp} {s : Shared} {p : Addr} {xs : List V} (I : Inv X pins σ H s) (h : H p=some (.lst xs)) :
  ∃ (its : List Value) (n : Nat),Vals xs its∧s.heap.get? p=some { cls:=.type "list",data:=.seq its.toArray n }∧xs.length≤sizeLine:=by
 obtain ⟨z,its,n,r,e⟩:=I.hok p _ h
 exact ⟨its,n,r,e,z⟩
theorem Inv.lstUpd {pins : List (Addr × Obj)} {σ : St} {H : Hp} {s : Shared} {p : Addr} {xs ys : List V} {its its' : List Value} {n n' : Nat} {f : Obj->Obj} (I : Inv X pins σ H s) (h : H p=some (.lst xs))
  (ho : s.heap.get? p=some { cls:=.type "list",data:=.seq its.toArray n }) (hf : f { cls:=.type "list",data:=.seq its.toArray n } = { cls:=.type "list",data:=.seq its'.toArray n' }) (r : Vals ys its') (hz : ys.length≤sizeLine) (t : Nat) :
  Inv X pins σ (upd H p (.lst ys)) { s with heap:=s.heap.update p f,toks:=t }:=by
 have e : (s.heap.update p f).get? p=some { cls:=.type "list",data:=.seq its'.toArray n' }:=by
  rw [Heap.get?_update_self f ho (by rw [hf] <;> rfl),hf]
 refine I.write (x:=p) (e:=p) (by rw [h]; trivial) (.inl rfl) (fun b u hb q=>(Heap.get?_update_other _ _ (Ne.symm hb)).trans q) ⟨_,e⟩ ?_
 exact ⟨hz,its',n',r,e⟩
def rSetL : V->V->V->Hp->(Hp->Prop)->Prop:=fun o i v H Q=>∃ p xs k j,o = .ref p∧i = .int k∧H p=some (.lst xs)∧ixN xs.length k=some j∧Q (upd H p (.lst (xs.set j v)))
theorem y2s : PSet X rSetL:=by
 intro pins s σ H o i v ov iv u Q I ro ri rv h
 obtain ⟨p,xs,k,j,rfl,rfl,hp,hj,q⟩:=h
 cases ro
 obtain ⟨t,rfl⟩:=ri
 obtain ⟨its,n,r,ho,hz⟩:=I.lst hp
 obtain ⟨h1,h2,h3,h4⟩:=y6p hj
 have hl:=r.length
 have hn:=z7N
 have I' : Inv X pins σ (upd H p (.lst (xs.set j v))) { s with heap:=s.heap.update p (Obj.mapSeq (·.setIfInBounds j u)) }:=
  I.lstUpd hp ho (y4e its n j u) (r.set rv j) (by rw [dG]; exact hz) s.toks
 by_cases h0 : 0≤k
 ·have hk : k.toNat=j:=by
   rw [seqIndex_of h0 h4] at h1
   exact Option.some.inj h1
  exact PySem.W.ki_setAt ho h0 (by omega) (by rw [aD,← hl]; exact h4) (by rw [hk]; exact ⟨_,I',q⟩)
 ·have hk : (k + (its.toArray.size : Int)).toNat=j:=by
   rw [seqIndex_neg (by omega) h3] at h1
   rw [aD,← hl]
   exact Option.some.inj h1
  exact PySem.W.ki_setBack ho (by omega) (by rw [aD,← hl]; exact h3) (by omega) (by rw [hk]; exact ⟨_,I',q⟩)
theorem z9t (lo hi : Option Int) (n : Nat) : (sliceBounds lo hi none n).1=((HT.sIx n 0 lo : Nat) : Int)∧(sliceBounds lo hi none n).2.1=((HT.sIx n n hi : Nat) : Int)∧(sliceBounds lo hi none n).2.2=1:=by
 refine ⟨?_,?_,rfl⟩
 ·cases lo with
  | none=>simp [sliceBounds,HT.sIx]
  | some i=>
   simp only [sliceBounds,HT.sIx,eO,show (1 : Int) > 0 by decide,if_true]
   by_cases h : i < 0
   ·simp only [h,if_true] <;> omega
   ·simp only [h,if_false] <;> omega
 ·cases hi with
  | none=>simp [sliceBounds,HT.sIx]
  | some i=>
   simp only [sliceBounds,HT.sIx,eO,show (1 : Int) > 0 by decide,if_true]
   by_cases h : i < 0
   ·simp only [h,if_true] <;> omega
   ·simp only [h,if_false] <;> omega
theorem z9f (its : List Value) (lo hi : Option Int) : slicePick its.toArray lo hi none=((its.drop (HT.sIx its.length 0 lo)).take (HT.sIx its.length its.length hi - HT.sIx its.length 0 lo)).toArray:=by
 obtain ⟨h1,h2,h3⟩:=z9t lo hi its.toArray.size
 unfold slicePick
 rw [h1,h2,h3]
 simp only [sliceRange_one,pick_run,aD] <;> rfl
def rSlL (K : aa) : V->Option Int->Option Int->Hp->VK->Prop:=fun x lo hi H Q=>∃ a xs,x = .ref a∧SqL K H a xs∧∀ p,H p=none->Q (.ref p) (upd H p (.lst (cutV xs lo hi)))
theorem sl_list : SlR X (rSlL X.K):=by
 intro pins s σ H x v vl vu lo hi sl Q I rx hs pl pu h
 obtain ⟨a,xs,rfl,hx,q⟩:=h
 cases rx
 obtain ⟨its,r,ht,hz⟩:=I.list hx
 have hlen:=r.length
 refine ⟨"list",_,slot_list_getitem.lookup,ht.isList.typeIs,?_⟩
 refine wpAny_getItem_list_slice ht.isList hs pl pu .none (by simp) ?_ (by rw [aD] <;> omega)
 rw [z9f,← hlen]
 refine ⟨.ref s.heap.objs.size,_,I.laid (t':=s.toks) (o:=.lst (cutV xs lo hi)) (fun b ob q=>Heap.get?_push_of_some _ q) (ar _) ?_,rfl,q _ (I.hok.fresh (ar _))⟩
 exact ⟨aJ (y0E xs lo hi) hz,_,0,(r.drop (HT.sIx xs.length 0 lo)).take (HT.sIx xs.length xs.length hi - HT.sIx xs.length 0 lo),Heap.get?_push_size _ rfl⟩
theorem y0n : z6S X (.type "list") (fun xs H Q=>∃ p ys,xs=[.ref p]∧(SqL X.K H p ys∨SqT X.K H p ys)∧∀ l,H l=none->Q (.ref l) (upd H l (.lst ys))):=by
 intro pins s σ H xs us Q I r h
 obtain ⟨p,ys,rfl,hq,q⟩:=h
 obtain ⟨u,rfl,rx⟩:=y5y r
 cases rx
 have fin : ∀ (its : List Value),Vals ys its->ys.length≤sizeLine->∀ (h' : Heap) (c' : Nat),(∀ b o',s.heap.get? b=some o'->h'.get? b=some o') →
   h'.get? s.heap.objs.size=some { cls:=.type "list",dict:=none,data:=.seq its.toArray c',slots:=#[] }->EP X pins σ Q (.ref s.heap.objs.size) { s with heap:=h' }:=fun its r' hz h' c' kp e=>
  ⟨.ref s.heap.objs.size,_,I.laid (t':=s.toks) kp (ar _) (show ObjOk X.prog X.w _ h' _ (.lst ys) from ⟨hz,its,c',r',e⟩),rfl,q _ (I.hok.fresh (ar _))⟩
 rcases hq with hq | hq
 ·obtain ⟨its,r',pl,hz⟩:=I.list hq
  have hlen:=r'.length
  obtain ⟨o,ho,hc,n,hd⟩:=pl.isList
  exact call_list_seq p (.inl rfl) ho hc hd (fun h' c' kp e=>fin its r' hz h' c' kp e) (by simp only [aD] <;> omega)
 ·obtain ⟨its,r',pl,hz⟩:=I.tuple hq
  have hlen:=r'.length
  obtain ⟨o,ho,hc,n,hd⟩:=pl
  exact call_list_seq p (.inr rfl) ho hc hd (fun h' c' kp e=>fin its r' hz h' c' kp e) (by simp only [aD] <;> omega)
def tyV (K : aa) (T : String) (x : V) (H : Hp) : Prop:=match x with
 | .str _=>T = "str"
 | .int _=>T = "int"
 | .ref p=>(T = "list" ∧ ∃ xs,SqL K H p xs)∨(T = "tuple" ∧ ∃ o,K.lookup p=some o∧o.cls = .type "tuple" ∧ o.dict=none) ∨
   (T = "dict" ∧ ((∃ kvs,H p=some (.dK kvs))∨∃ kvs,H p=some (.dT kvs)))∨(T = "set" ∧ ∃ S n,H p=some (.set S n))
 | _=>False
theorem tyV_is {pins : List (Addr × Obj)} {σ : St} {H : Hp} {s : Shared} {T : String} {x : V} {v : Value} (I : Inv X pins σ H s) (r : RelV x v) (ty : tyV X.K T x H) :
  s.TypeIs v T∧∀ a,v = .ref a->∃ ob,s.heap.get? a=some ob∧ob.dict=none:=by
 cases x with
 | str z=>
  obtain ⟨t,rfl⟩:=r
  cases (show T = "str" from ty)
  exact ⟨typeIs_str s z t,fun _ e=>nomatch e⟩
 | int i=>
  obtain ⟨t,rfl⟩:=r
  cases (show T = "int" from ty)
  exact ⟨typeIs_int s i t,fun _ e=>nomatch e⟩
 | ref p=>
  cases r
  rcases ty with ⟨rfl,xs,hq⟩ | ⟨rfl,o,hk,hc,hd⟩ | ⟨rfl,hk⟩ | ⟨rfl,S,n,hk⟩
  ·obtain ⟨its,_,pl,_⟩:=I.list hq
   refine ⟨pl.isList.typeIs,fun a e=>?_⟩
   cases e
   obtain ⟨o,n,e,c,hd,_⟩:=pl
   exact ⟨o,e,hd⟩
  ·refine ⟨⟨o,I.kIn p o hk,hc⟩,fun a e=>?_⟩
   cases e
   exact ⟨o,I.kIn _ o hk,hd⟩
  ·have z : ∃ o,s.heap.get? p=some o∧o.ExactDict:=by
    rcases hk with ⟨kvs,hk⟩ | ⟨kvs,hk⟩
    ·obtain ⟨_,_,_,_,o,_,_,e,ex,_⟩:=I.hok p _ hk
     exact ⟨o,e,ex⟩
    ·obtain ⟨_,_,_,_,o,_,_,e,ex,_⟩:=I.hok p _ hk
     exact ⟨o,e,ex⟩
   obtain ⟨o,e,ex⟩:=z
   refine ⟨⟨o,e,ex.1⟩,fun a e2=>?_⟩
   cases e2
   exact ⟨o,e,ex.2.1⟩
  ·obtain ⟨o,_,_,_,e,ex,_⟩:=I.hok p _ hk
   refine ⟨⟨o,e,ex.1⟩,fun a e2=>?_⟩
   cases e2
   exact ⟨o,e,ex.2.1⟩
 | _=>exact False.elim ty
def tBM (K : aa) (T : String) (r : V->List V->Hp->VK->Prop) (to : TE) (t : TA) : TE:=fun σ H Q=>to σ H fun x H1=>tyV K T x H1∧t σ H1 fun xs H2=>r x xs H2 Q
variable {o e : Expr} {es : List Expr} {to : TE} {t : TA} {name : Str} {apos cpos : Pos} {T id : String} {r : V->List V->Hp->VK->Prop}
theorem y7H (pa : PlainAttrs T) (slot : Slot T name id) (hty : typeOf (.builtin id)=pure (.type "method_descriptor")) (hm : MtR X id r) (ho : PE X o to) (ha : PA X (e :: es) t)
  (hbase : attributeBase o name X.env (eval o X.env)=eval o X.env:=by rfl)
  (hfew : ((backTo cpos (starEach (e :: es) X.env)).all (fun x=>!x.1) && (backToKw cpos (keywordEach [] X.env)).all (fun x=>x.1.isSome)
   && decide ((e :: es).length + ([] : List Keyword).length + (if ([] : List Keyword).isEmpty then 0 else 1) < 30))=true:=by rfl)
  (hline : (apos.endLine == cpos.line)=true:=by rfl) (hs : starEach (e :: es) X.env=(false,eval e X.env) :: starEach es X.env:=by rfl) (hplain : (backTo cpos (starEach es X.env)).any (·.1)=false:=by rfl) :
  PE X (.Call (.Attribute o name apos) (e :: es) [] cpos) (tBM X.K T r to t):=by
 intro pins s σ H Q I h
 refine wpAny_Call_method_late hbase hfew hline rfl (thn (ho pins s σ H _ I h) fun v s1 ⟨x,H1,I1,r1,ty,q1⟩=>?_)
 obtain ⟨h1,h2⟩:=tyV_is I1 r1 ty
 refine ⟨T,id,pa,slot,hty,h1,h2,?_⟩
 have hA:=ha cpos pins s1 σ H1 _ I1 q1
 rw [hs] at hA ⊢
 refine Calls.callWith_builtin (by show (false || (backTo cpos (starEach es X.env)).any (·.1))=false; rw [hplain] <;> rfl) (Calls.evalArgs_plain ?_)
 exact thn hA fun us s2 ⟨vs,H2,I2,r2,q2⟩=>hm pins s2 σ H2 x vs v us Q I2 r1 r2 q2
end
end L2
namespace L2
open PySem PySem.Spec PyProof.Rows
def MtM (X : Cx) (id : String) (r : V->List V->Hp->VK->Prop) : Prop:=
 ∀ (pins : List (Addr × Obj)) (s : Shared) (σ : St) (H : Hp) (x : V) (xs : List V) (v : Value) (us : List Value) (Q : VK),Inv X pins σ H s->RelV x v->Vals xs us->r x xs H Q →
  wpAny (model X.prog X.w) X.A (call (.builtin id) (v :: us)) (EP X pins σ Q) X.xe s
theorem Vals.one : ∀ {x : V} {us : List Value},Vals [x] us->∃ u,us=[u]∧RelV x u
 | _,_,.cons r .nil=>⟨_,rfl,r⟩
theorem Vals.two : ∀ {x y : V} {us : List Value},Vals [x,y] us->∃ u v,us=[u,v]∧RelV x u∧RelV y v
 | _,_,_,.cons r (.cons q .nil)=>⟨_,_,rfl,r,q⟩
theorem Vals.rep {xs : List V} {us : List Value} (h : Vals xs us) : ∀ k : Nat,Vals (ae k xs).flatten (ae k us).flatten
 | 0=>.nil
 | k + 1=>by
  rw [bf,bf,bw,bw]
  exact Vals.append h (Vals.rep h k)
theorem z9L (its : List Value) : ∀ (k : Nat) (acc : List Value),
  eT (fun x1 x2=>x1 ++ x2) acc.toArray (ae k its.toArray)=(acc ++ (ae k its).flatten).toArray
 | 0,acc=>by simp
 | k + 1,acc=>by
  have e : acc.toArray ++ its.toArray=(acc ++ its).toArray:=by simp
  have e2 : (acc ++ its) ++ (ae k its).flatten=acc ++ (ae (k + 1) its).flatten:=by
   rw [bf,bw,aL]
  rw [← e2,← z9L its k (acc ++ its),← e,bf,List.foldl_cons]
section
variable {X : Cx} {pins : List (Addr × Obj)} {σ : St} {H : Hp} {s : Shared} {l b : Addr} {xs ys zs : List V}
theorem Inv.lset {its its' : List Value} {n : Nat} {f : Array Value->Array Value} {t' : Nat} (I : Inv X pins σ H s) (hH : H l=some (.lst xs))
  (e : s.heap.get? l=some { cls:=.type "list",data:=.seq its.toArray n }) (hf : f its.toArray=its'.toArray) (hv : Vals ys its') (hz : ys.length≤sizeLine) :
  Inv X pins σ (upd H l (.lst ys)) { s with heap:=s.heap.update l (Obj.mapSeq f),toks:=t' }:=by
 have q:=PySem.IsL.update e f
 rw [hf] at q
 refine I.write (x:=l) (e:=l) (by rw [hH]; exact trivial) (.inl rfl) (fun b' u hb hu=>(Heap.get?_update_other s.heap (Obj.mapSeq f) (Ne.symm hb)).trans hu) ⟨_,q⟩ ?_
 exact ⟨hz,its',_,hv,q⟩
theorem Inv.lnew {its : List Value} {t' : Nat} (I : Inv X pins σ H s) (hv : Vals ys its) (hz : ys.length≤sizeLine) :
  Inv X pins σ (upd H s.heap.objs.size (.lst ys)) { s with heap:=s.heap.push { cls:=.type "list",data:=.seq its.toArray },toks:=t' }:=
 I.laid (fun _ _ q=>Heap.get?_push_of_some _ q) (ar _) ⟨hz,its,0,hv,Heap.get?_push_size _ rfl⟩
theorem Inv.fresh (I : Inv X pins σ H s) : H s.heap.objs.size=none:=I.hok.fresh (ar _)
theorem Inv.lstM (I : Inv X pins σ H s) (hH : H l=some (.lst xs)) : xs.length≤sizeLine∧∃ (its : List Value) (n : Nat),Vals xs its∧xs.length=its.length∧s.heap.get? l=some { cls:=.type "list",data:=.seq its.toArray n }:=by
 obtain ⟨z,its,n,r,e⟩:=I.hok l _ hH
 exact ⟨z,its,n,r,r.length,e⟩
theorem y3n {n : Nat} (h : n≤sizeLine) : Builtin.List.listTooLong n=false:=by
 unfold Builtin.List.listTooLong
 exact decide_eq_false (by omega)
end
section
variable {X : Cx}
def y0Z : V->List V->Hp->VK->Prop:=fun x vs H Q=>∃ l xs y,x = .ref l∧vs=[y]∧H l=some (.lst xs)∧xs.length < sizeLine∧Q .non (upd H l (.lst (xs ++ [y])))
theorem z5o : MtM X "list.append" y0Z:=by
 intro pins s σ H x vs v us Q I rx rv h
 obtain ⟨l,xs,y,rfl,rfl,hH,hz,q⟩:=h
 cases rx
 obtain ⟨u,rfl,ru⟩:=rv.one
 obtain ⟨z,its,n,r,hl,e⟩:=I.lstM hH
 refine call_meets F.slot_list_append ⟨_,e,rfl⟩ F.entry_list_append (F.args_list_append_2 _ _) (PySem.list_append l its.toArray n u (by rw [aD]; omega)) ⟨e,?_⟩
 refine ⟨.non,_,I.lset (its':=its ++ [u]) hH e (by simp) (r.append (.cons ru .nil)) ?_,rfl,q⟩
 rw [aH,eu]
 omega
def rExtend : V->List V->Hp->VK->Prop:=fun x vs H Q=>∃ l b xs zs,x = .ref l∧vs=[.ref b]∧H l=some (.lst xs)∧H b=some (.lst zs)∧xs.length + zs.length≤sizeLine∧Q .non (upd H l (.lst (xs ++ zs)))
theorem z9W : MtM X "list.extend" rExtend:=by
 intro pins s σ H x vs v us Q I rx rv h
 obtain ⟨l,b,xs,zs,rfl,rfl,hH,hB,hz,q⟩:=h
 cases rx
 obtain ⟨u,rfl,ru⟩:=rv.one
 cases ru
 obtain ⟨z,its,n,r,hl,e⟩:=I.lstM hH
 obtain ⟨z2,its2,n2,r2,hl2,e2⟩:=I.lstM hB
 have hsz : its.toArray.size + its2.toArray.size≤sizeLine:=by rw [aD,aD]; omega
 have hlong : ¬ (!its.toArray.isEmpty && Builtin.List.listTooLong (its.toArray.size + its2.toArray.size))=true:=by
  rw [y3n hsz,dM]
  exact ax
 refine call_meets F.slot_list_extend ⟨_,e,rfl⟩ F.entry_list_extend (F.args_list_extend_2 _ _)
  (AutoSeq1.list_extend_list_list_0 l its.toArray n b its2.toArray n2 hlong (by rw [aD]; omega) (by omega)) ⟨e,e2,?_⟩
 refine ⟨.non,_,I.lset (its':=its ++ its2) hH e (by simp) (r.append r2) ?_,rfl,q⟩
 rw [aH]
 omega
def rCat : R2:=fun x y H Q=>∃ l b xs zs,x = .ref l∧y = .ref b∧H l=some (.lst xs)∧H b=some (.lst zs)∧xs.length + zs.length≤sizeLine∧∀ p,H p=none->Q (.ref p) (upd H p (.lst (xs ++ zs)))
theorem op_cat : OpR X (binaryOp .Add) rCat:=by
 intro pins s σ H x y v u Q I rx ry h
 obtain ⟨l,b,xs,zs,rfl,rfl,hH,hB,hz,q⟩:=h
 cases rx
 cases ry
 obtain ⟨z,its,n,r,hl,e⟩:=I.lstM hH
 obtain ⟨z2,its2,n2,r2,hl2,e2⟩:=I.lstM hB
 refine PySem.P.add_list e e2 ?_ (by rw [aD,aD]; omega)
 have ea : its.toArray ++ its2.toArray=(its ++ its2).toArray:=by simp
 rw [ea]
 exact ⟨.ref _,_,I.lnew (t':=s.toks) (r.append r2) (by rw [aH]; omega),rfl,q _ I.fresh⟩
def rRep : R2:=fun x y H Q=>∃ l k xs,x = .ref l∧y = .int k∧H l=some (.lst xs)∧-(2 ^ 63)≤k∧k < 2 ^ 63∧xs.length * k.toNat≤sizeLine ∧
 ∀ p,H p=none->Q (.ref p) (upd H p (.lst (ae k.toNat xs).flatten))
theorem len_rep {α : Type} (xs : List α) (k : Nat) : (ae k xs).flatten.length=k * xs.length:=by
 induction k with
 | zero=>simp
 | succ k ih=>rw [bf,bw,aH,ih,eh,Nat.add_comm]
theorem op_rep : OpR X (binaryOp .Mult) rRep:=by
 intro pins s σ H x y v u Q I rx ry h
 obtain ⟨l,k,xs,rfl,rfl,hH,h1,h2,hz,q⟩:=h
 cases rx
 obtain ⟨t,rfl⟩:=ry
 obtain ⟨z,its,n,r,hl,e⟩:=I.lstM hH
 have hlen : its.toArray.size * k.toNat≤sizeLine:=by rw [aD,← hl]; exact hz
 have hcap : ¬ its.toArray.size * k.toNat > (2 ^ 63 - 1) / 8:=by
  have : (sizeLine : Nat)≤(2 ^ 63 - 1) / 8:=by decide
  omega
 have hfit : ¬ (!Builtin.List.listFitsIndex k)=true:=by
  rw [fitsIndex_both h1 h2]
  exact ax
 have hlong : ¬ Builtin.List.listTooLong (its.toArray.size * k.toNat)=true:=by
  rw [y3n hlen]
  exact ax
 have hnew : eT (fun x1 x2=>x1 ++ x2) #[] (ae (if its.toArray.isEmpty=true then 0 else k.toNat) its.toArray)=(ae k.toNat its).flatten.toArray:=by
  have f0 : ∀ m : Nat,eT (fun x1 x2=>x1 ++ x2) #[] (ae m its.toArray)=(ae m its).flatten.toArray:=fun m=>by
   have:=z9L its m []
   rw [cj] at this
   exact this
  rw [f0]
  cases its with
  | nil=>simp
  | cons a r'=>rw [if_neg (by simp)]
 refine wpAny_binaryOp_repeat_ref (T := "list") (U := "int") (by decide) ⟨_,e,rfl⟩ (fun s'=>typeIs_int s' k t) noFill_list_mul F.fills_int_mul F.slot_int_rmul repeat_list F.slot_int_index.lookup
  (call_meets F.slot_int_rmul (typeIs_int s k t) F.entry_int_rmul (F.args_int_rmul_2 _ _) (int___rmul___int_list k t l its.toArray n)
   ⟨e,rfl,⟨_,e,rfl⟩,call_meets F.slot_list_mul ⟨_,e,rfl⟩ F.entry_list_mul (F.args_list_mul_2 _ _) (AutoListH.list___mul___list_int_3 l its.toArray n k t hfit hcap hlong) ⟨e,?_⟩⟩)
 rw [hnew]
 exact ⟨.ref _,_,I.lnew (t':=s.toks) (r.rep k.toNat) (by rw [len_rep,Nat.mul_comm]; exact hz),rfl,q _ I.fresh⟩
end
section
variable {prog : Program} {w : World} {A : Around} {E : Value->Shared->Prop} {s : Shared}
end
section
variable {X : Cx}
end
end L2
namespace Att
open PySem PySem.W PySem.Calls PyProof.Rows
theorem z7q {P : Params} {h : Heap} : ∀ (ns : List Int) (vs : List Value),WellAll P h vs (ns.map WData.int)->IntsAre vs ns:=by
 intro ns
 induction ns with
 | nil=>
  intro vs w
  rw [c7] at w
  cases w
  exact .nil
 | cons n ns ih=>
  intro vs w
  rw [aM] at w
  cases w with
  | cons a b=>
   cases a
   exact .cons _ _ (ih _ b)
theorem y7I {l : OpenLaw} {n : Nat} (hn : l.most=some n) {P : Params} {h : Heap} {args : List WData} {vals : List Value}
  (hpre : l.row.toRowW.claim.pre args=true) (hwl : WellAll P h vals args) :
  ∃ a vs ns,vals=[Value.ref a]∧args=[WData.list (ns.map WData.int)]∧h.get? a=some { cls:=.type "list",data:=.seq vs.toArray }∧IntsAre vs ns∧ns.length≤n:=by
 have hsh : WShape.hasAll [] args [.list .int]=true:=(pre_splitW hpre).1
 have hc : l.pre.holds [] { args:=args } = true:=(pre_splitW hpre).2
 obtain ⟨d,r,rfl,h1,h2⟩:=hasAllW_cons hsh
 obtain rfl:=hasAllW_nil h2
 obtain ⟨xs,rfl,h3⟩:=hasW_list h1
 obtain ⟨ns,rfl⟩:=items_int h3
 have hlen : ns.length≤n:=by
  unfold OpenLaw.pre at hc
  have h4 : (WTm.not (.lt (.lit (.int (n : Int))) (.len (.arg 0)))).holds [] { args:=[.list (ns.map .int)] } = true:=by
   have h4:=(holds_andW hc).1
   rw [hn] at h4
   exact h4
  have h5:=condW_of h4 (w_not (w_lt w_lit (w_len_list (w_arg rfl))))
  rw [aq] at h5
  refine Nat.le_of_not_lt fun q=>?_
  have q' : (n : Int) < ((ns.length : Nat) : Int):=by omega
  first
   | (rw [decide_eq_true q'] at h5; exact absurd h5 (by decide))
   | (simp at h5; omega)
 cases hwl with
 | cons w1 w2=>
  cases w2
  cases w1 with
  | list ho hall=>exact ⟨_,_,ns,rfl,rfl,ho,z7q ns _ hall,hlen⟩
theorem y7p (l : OpenLaw) (args : List WData) : l.row.toRowW.claim.post args (.bool true) args=true:=
 postW_of (r:=l.row.toRowW) (X:=(true == true))
  (show WShape.has [] (.bool true) .bool=true by first | rfl | decide | simp [WShape.has,WShape.arms,WShape.armsAll])
  (show (WTm.eq .res (.lit (.bool true))).value [] { args:=args,res:=some (.bool true),after:=args } = some (.bool (true == true)) from w_eq_bool (w_res rfl) w_lit) rfl
theorem attach_call {l : OpenLaw} {n : Nat} {q : Program} {loose : List Str} {XP : (Str->Option Value)->Heap->Prop} {YP : World->Heap->Prop} {d : DefRec}
  (hn : l.most=some n) (hdf : d.params.defaults=[])
  (call : ∀ (w : World) (s₀ s₁ : Shared) (mg mb : Str->Option Value) (fa : Addr) (o : Obj) (pm cd doc : Value) (a : Addr) (vs : List Value) (ns : List Int),
   Ground q loose [] XP w s₀ mg mb s₁.heap->YP w s₁.heap →
   s₁.heap.get? fa=some o->o.data = .func (docDef d.name d.params d.body d.scope pm cd doc)->s₁.heap.CodeRec cd d.name->mg d.name=some (.ref fa) →
   s₁.heap.get? a=some { cls:=.type "list",data:=.seq vs.toArray }->IntsAre vs ns->ns.length≤n->s₁.gens = #[] →
   codeAny (model l.prog w) callerA (.call (.ref fa) ⟨[.ref a],[]⟩) (fun r s'=>r = .ok (.ret (.bool true))∧OldK s₁.heap s'.heap∧s'.os=s₁.os∧AllBare s'.gens) s₁) :
  WalkO q loose XP YP l.row.toRowW d [] (fun f vs=>PySem.call f vs):=by
 intro w s₀ s₁ mg mb G Y fa o pm cd doc dV kV ho hd hcd hD hmg hg args vals as hpre hlay hrd hwl hlo
 obtain rfl : dV = .none:=Dflts.none hD hdf
 obtain rfl : kV = .none:=Dflts.noKw hD
 obtain ⟨a,vs,ns,rfl,rfl,hobj,hints,hlen⟩:=y7I hn hpre hwl
 refine enter_call (codeAny_mono (call w s₀ s₁ mg mb fa o pm cd doc a vs ns G Y ho (fd_plain hd) hcd hmg hobj hints hlen hg) fun r s' hq=>?_)
 obtain ⟨rfl,h2,h3,h4⟩:=hq
 exact ⟨.inl ⟨.bool true,.bool true,[],rfl,fun _=>rfl,.bool true,y7p l _,fun _=>⟨List.Pairwise.nil,fun _ hm=>(nomatch hm)⟩⟩,h2,h3,h4⟩
section
variable {prog : Program} {w : World} {A : Around} {E : Value->Shared->Prop} {s : Shared} {K : Frag}
def ledger (h : Heap) (L d : Addr) : List (Addr × Obj):=(ah h.objs.size).filterMap fun a=>if a=L∨a=d then none else (h.get? a).map fun o=>(a,o)
end
end Att
namespace L2
open PySem PySem.Spec PyProof.Rows
theorem z9C : ∀ {vs : List Value} {ns : List Int},IntsAre vs ns->Vals (ns.map V.int) vs
 | _,_,.nil=>.nil
 | _,_,.cons n t h=>.cons ⟨t,rfl⟩ (z9C h)
def Only (H : Hp) : Prop:=∀ b,H b=none∨∃ o xs,H b=some (.frz o (.lst xs))
theorem y8W {P : Program} {w : World} {K : aa} {mg mb : Str->Option Value} {CX : CXT} {k : Nat} {fa a : Addr} {fd : FuncData} {x : Str} {sp : Sp} {s₁ : Shared} {vs : List Value} {ns : List Int}
  (KX : K.In s₁.heap) (hns : s₁.heap.Ns mainGlobals mg) (hb : s₁.heap.Ns builtinsNs mb) (hbb : ∀ x : Str,x ≠ "__name__" → mb x=bootBuiltins x) (hlim : s₁.heap.NoLimit) (hg : s₁.gens = #[])
  (ha : s₁.heap.get? a=some { cls:=.type "list",data:=.seq vs.toArray }) (hi : IntsAre vs ns) (hl : ns.length≤sizeLine) (hr : Room k callerA)
  (F : ∀ base : Heap,K.In base->base.Ns mainGlobals mg->FnOk P w K mg base CX k fa fd [x] sp) (hbind : ∀ (s : Shared) (u : Value),BindsTo s fd ⟨[u],[]⟩ [(x,u)])
  (hsp : ∀ H : Hp,Only H->SqL K H a (ns.map V.int)->sp [.ref a] H (fun v _=>v = .bl true) fun _ _ _=>False)
  (hCX : ∀ H e s',CX [] H s₁ (fun _ _ _=>False) e s'->False) :
  codeAny (model P w) callerA (.call (.ref fa) ⟨[.ref a],[]⟩) (fun r s'=>r = .ok (.ret (.bool true))∧OldK s₁.heap s'.heap∧s'.os=s₁.os∧AllBare s'.gens) s₁:=by
 have rv:=z9C hi
 have lenV:=hi.length
 have core : ∀ H : Hp,Only H->SqL K H a (ns.map V.int)->HOk P w H s₁.heap->(∀ b,H b≠none->b=a)->(H a≠none->K.lookup a=none) →
   codeAny (model P w) callerA (.call (.ref fa) ⟨[.ref a],[]⟩) (fun r s'=>r = .ok (.ret (.bool true))∧OldK s₁.heap s'.heap∧s'.os=s₁.os∧AllBare s'.gens) s₁:=by
  intro H hO hS hok hA hK
  have base_of : ∀ {b : Addr} {o : Obj},s₁.heap.get? b=some o->H b=none->(y8a s₁.heap H).get? b=some o:=fun e n=>y9z e n
  have noA : ∀ {b : Addr} {o : Obj} {es : Array DictEntry} {ep : Nat},s₁.heap.get? b=some o->o.data = .dict es ep->H b=none:=fun {b o es ep} e d=>by
   cases q : H b with
   | none=>rfl
   | some u=>
    have e' : b=a:=hA b (by rw [q]; simp)
    subst e'
    rw [ha] at e; cases e
    have d' : Data.seq vs.toArray _=Data.dict es ep:=d
    cases d'
  have nsK : ∀ {b : Addr} {m : Str->Option Value},s₁.heap.Ns b m->(y8a s₁.heap H).Ns b m:=fun {b m} ⟨o,es,ep,e,d,r⟩=>⟨o,es,ep,base_of e (noA e d),d,r⟩
  have hKb : K.In (y8a s₁.heap H):=fun b o e=>base_of (KX b o e) (by
   cases q : H b with
   | none=>rfl
   | some u=>
    have e' : b=a:=hA b (by rw [q]; simp)
    subst e'
    rw [hK (by rw [q]; simp)] at e; cases e)
  have hM : Mod K mg (y8a s₁.heap H):=⟨hKb,nsK hns,⟨mb,nsK hb,hbb⟩,let ⟨mc,h1,h2⟩:=hlim; ⟨mc,nsK h1,h2⟩⟩
  have e0 : Env0 P w K mg (y8a s₁.heap H) callerA [] s₁ H:=⟨rfl,hM,fun b o e=>of_hidT e,Nat.le_of_eq (y5J _ _),trivial,fun b hb=>absurd (show b∈([] : List Addr) from hb) (by simp),hok,.of_eq hg⟩
  refine codeAny_mono ((F _ hKb (nsK hns)).run callerA [] s₁ H ⟨[.ref a],[]⟩ [.ref a] [.ref a] _ _ hr e0 (hbind s₁ (.ref a)) (.cons rfl .nil) (hsp H hO hS)) fun r s' h=>?_
  cases r with
  | error e=>exact (hCX H e s' h).elim
  | ok fl=>
   cases fl with
   | next=>exact False.elim h
   | brk=>exact False.elim h
   | cont=>exact False.elim h
   | ret u=>
    obtain ⟨v,H',os,bare,un,hok',r',q⟩:=h
    have q' : v = .bl true:=q
    subst q'
    obtain rfl : u=Value.bool true:=r'
    refine ⟨rfl,OldK.of_keep fun b o e=>?_,os,bare⟩
    cases q : H b with
    | none=>exact un.keep b o e q (by intro z; exact absurd (show b∈([] : List Addr) from z) (by simp)) (by simp)
    | some u=>
     rcases hO b with z | ⟨ob,xs,z⟩
     ·rw [q] at z; cases z
     ·have z2:=un.frzs b ob _ z
      obtain ⟨e1,_⟩:=hok b _ z
      obtain ⟨e2,_⟩:=hok' b _ z2
      rw [e] at e1; cases e1
      exact e2
 cases hk : K.lookup a with
 | some o=>
  have e:=KX a o hk
  rw [ha] at e
  cases e
  refine core (fun _=>none) (fun _=>.inl rfl) (.inr ⟨_,vs.toArray,_,hk,rfl,rfl,rfl,by rw [aD,lenV]; exact hl,by simpa using rv⟩) (fun b u z=>by have z' : (none : Option HO)=some u:=z; cases z') (fun b z=>absurd rfl z) fun z=>absurd rfl z
 | none=>
  refine core (fun b=>if b=a then some (.frz { cls:=.type "list",data:=.seq vs.toArray } (.lst (ns.map V.int))) else none) (fun b=>?_) (.inl (.inr ⟨{ cls:=.type "list",data:=.seq vs.toArray },if_pos rfl⟩)) (fun b u z=>?_) (fun b z=>?_) fun _=>hk
  ·by_cases hb : b=a
   ·exact .inr ⟨_,_,if_pos hb⟩
   ·exact .inl (if_neg hb)
  ·by_cases hb : b=a
   ·have z':=(if_pos hb).symm.trans z
    cases z'
    subst hb
    exact ⟨ha,by rw [aq]; exact hl,vs,_,rv,ha⟩
   ·have z':=(if_neg hb).symm.trans z
    cases z'
  ·by_cases hb : b=a
   ·exact hb
   ·exact absurd (if_neg hb) z
end L2
namespace L2
open PySem PySem.Spec PyProof.Rows
abbrev KOf {K : aa} {h : Heap} (_ : K.In h) : aa:=K
theorem walk_of {l : df} {n k : Nat} {q : Program} {loose : List Str} {XP : (Str->Option Value)->Heap->Prop} {YP : World->Heap->Prop} {d : DefRec} {K : Params->aa} {CX : World->CXT} {sp : World->Sp} {x : Str}
  (hn : l.most=some n) (hn2 : n≤sizeLine) (hdf : d.params.defaults=[]) (hr : Room k callerA)
  (hY : ∀ (w : World) (h : Heap),YP w h->(K w.params).In h)
  (F : ∀ (w : World) (mg : Str->Option Value) (fa : Addr) (h : Heap),(K w.params).In h->h.Ns mainGlobals mg->mg d.name=some (.ref fa) →
   ∃ fd : FuncData,(∀ (s : Shared) (u : Value),BindsTo s fd ⟨[u],[]⟩ [(x,u)]) ∧
    ∀ base : Heap,(K w.params).In base->base.Ns mainGlobals mg->FnOk l.prog w (K w.params) mg base (CX w) k fa fd [x] (sp w))
  (hsp : ∀ (w : World) (H : Hp) (a : Addr) (ns : List Int),ns.length≤n->Only H->SqL (K w.params) H a (ns.map V.int)->sp w [.ref a] H (fun v _=>v = .bl true) fun _ _ _=>False)
  (hCX : ∀ (w : World) (H : Hp) (s : Shared) (e : Value) (s' : Shared),CX w [] H s (fun _ _ _=>False) e s'->False) :
  PySem.W.WalkO q loose XP YP l.row.toRowW d [] (fun f vs=>PySem.call f vs):=by
 refine Att.attach_call hn hdf fun w s₀ s₁ mg mb fa o pm cd doc a vs ns G Y ho hd hcd hmg hobj hints hlen hg=>?_
 have KX:=hY w _ Y
 obtain ⟨fd,hb,hF⟩:=F w mg fa _ KX G.T.g hmg
 exact y8W KX G.T.g G.T.b G.T.builtins G.T.nolimit hg hobj hints (aJ hlen hn2) hr hF hb (fun H hO hS=>hsp w H a ns hlen hO hS) fun H e s'=>hCX w H s₁ e s'
end L2
namespace L2
open PySem PySem.Spec PyProof.Rows
def z0n (s : Stmt) : Arguments:=match s with
 | .FunctionDef _ a _ _ _ _ _ _ _ _=>a
 | _=>{ posonlyargs:=[],args:=[],vararg:=none,kwonlyargs:=[],kw_defaults:=[],kwarg:=none,defaults:=[] }
def z0i (s : Stmt) : List Stmt:=match s with
 | .FunctionDef _ _ b _ _ _ _ _ _ _=>b
 | _=>[]
def z0b (s : Stmt) : Scope:=match s with
 | .FunctionDef _ _ _ _ _ _ sc _ _ _=>sc
 | _=>{ kind:=.function,names:=[],isGenerator:=false,isCoroutine:=false }
abbrev CX0 : CXT:=fun _ _ _ _ _ _=>False
abbrev E0 : XK:=fun _ _ _=>False
theorem pass0 {X : Cx} : y6s CX0 X E0:=fun _ _ _ _ _ _ _ h=>h.elim
structure Fun (K : aa) (x qual : Str) (st : Stmt) (f : Addr) (fd : FuncData) : Prop where
 ex : ∃ (oc : Value) (od : Option Addr) (kV doc pm : Value) (an : Option Addr) (cdv ct : Value) (osl : Array (Option Value)),
  fd=aA x qual (z0n st) (z0i st) (z0b st) .none kV doc pm an cdv ct∧K.lookup f=some ⟨oc,od,.func fd,osl⟩∧aw K cdv qual=true
 kp : ao K (.ref f)=true
section
variable {P : Program} {w : World} {K : aa} {mg : Str->Option Value} {base : Heap}
theorem Fun.ok {x qual : Str} {st : Stmt} {f : Addr} {fd : FuncData} {N ps : List Str} {k : Nat} {sp : Sp} (F : Fun K x qual st f fd) (S : FnScope N ps (z0b st)) (len : ∀ vs H Q E,sp vs H Q E->vs.length=ps.length)
  (hbody : ∀ (cdv : Value) (A : Around) (outer : List Env) (s : Shared) (H : Hp) (vs : List V) (Q : VK) (E : XK),Room k (A.deeper (envOfC qual (z0b st) s.heap.objs.size f cdv))->sp vs H Q E →
   ∃ t,PSs (z8l CX0 P w K mg base N qual (z0b st) f cdv A outer s H E).nox (z0i st) t∧t { nx:=fun _ H'=>Q .non H',rt:=Q } (z4I N vs) H) : FnOk P w K mg base CX0 (k + 1) f fd ps sp:=by
 obtain ⟨oc,od,kV,doc,pm,an,cdv,ct,osl,rfl,lk,hcd⟩:=F.ex
 refine fn_of lk hcd S len fun A outer s H vs Q E hr hsp=>?_
 obtain ⟨t,h,q⟩:=hbody cdv A outer s H vs Q E hr hsp
 exact ⟨t,h.nox,q⟩
theorem Fun.binds {x qual : Str} {st : Stmt} {f : Addr} {fd : FuncData} {ps : List Str} (F : Fun K x qual st f fd)
  (h : ∀ (kV doc pm : Value) (an : Option Addr) (cdv ct : Value) (us : List Value),us.length=ps.length->bindArgs (aA x qual (z0n st) (z0i st) (z0b st) .none kV doc pm an cdv ct) ⟨us,[]⟩=pure (ps.zip us)) : Binds K fd ps []:=by
 obtain ⟨oc,od,kV,doc,pm,an,cdv,ct,osl,rfl,lk,hcd⟩:=F.ex
 exact .all (h kV doc pm an cdv ct)
theorem z0z {x qual : Str} {st : Stmt} {f : Addr} {oc : Value} {od an : Option Addr} {osl : Array (Option Value)} {kV doc pm cdv ct : Value} (l : K.lookup f=some ⟨oc,od,.func (aA x qual (z0n st) (z0i st) (z0b st) .none kV doc pm an cdv ct),osl⟩)
  (c : aw K cdv qual=true) (k : ao K (.ref f)=true) : Fun K x qual st f (aA x qual (z0n st) (z0i st) (z0b st) .none kV doc pm an cdv ct):=⟨⟨oc,od,kV,doc,pm,an,cdv,ct,osl,rfl,l,c⟩,k⟩
end
theorem z7e {n : Nat} (h : n≤1000) : n < sizeLine:=Nat.lt_of_le_of_lt h (by decide)
section
variable {X : Cx}
theorem pv (i : Nat) {x : Str} {pos : Pos} (hN : X.N[i]? = some x:=by rfl) (hv : Vis X.env.scope x:=by first | exact Or.inl rfl | exact Or.inr (Or.inl rfl) | exact Or.inr (Or.inr rfl)) (hd : (x == ("__debug__" : Str))=false:=by decide)
  (hcd : (x == ("__classdict__" : Str))=false:=by decide) : PE X (.Name x pos) (y3i i):=pe_var hN hv hd hcd
end
theorem iteF {A B : Prop} (h : B) : if false=true then A else B:=by
 rw [if_neg ax]
 exact h
theorem iteT {A B : Prop} (h : A) : if true=true then A else B:=by
 rw [if_pos rfl]
 exact h
def Same (H H' : Hp) : Prop:=∀ b o,H b=some o->H' b=some o
theorem Same.refl (H : Hp) : Same H H:=fun _ _ h=>h
theorem Same.trans {H H1 H2 : Hp} (a : Same H H1) (b : Same H1 H2) : Same H H2:=fun c o h=>b c o (a c o h)
theorem Same.free {H H' : Hp} (e : Same H H') {l : Addr} (h : H' l=Option.none) : H l=Option.none:=by
 cases q : H l with
 | none=>rfl
 | some o=>
  rw [e l o q] at h
  cases h
end L2
namespace L2
open PySem PySem.Spec PyProof.Rows
section
variable {κ : Type} [DecidableEq κ]
def y2o (kvs : List (κ × V)) (k : κ) : Option V:=(kvs.find? fun kv=>decide (kv.1=k)).map (·.2)
def z7x (kvs : List (κ × V)) (k : κ) (v : V) : List (κ × V):=
 if (kvs.any fun kv=>decide (kv.1=k))=true then kvs.map (fun kv=>if kv.1=k then (kv.1,v) else kv) else kvs ++ [(k,v)]
theorem z8n {p : κ × V} {r : List (κ × V)} {k : κ} (e : p.1=k) : y2o (p :: r) k=some p.2:=by simp [y2o,bC,e]
theorem z8P {p : κ × V} {r : List (κ × V)} {k : κ} (e : ¬ p.1=k) : y2o (p :: r) k=y2o r k:=by simp [y2o,bC,e]
theorem z8D (k : κ) : ∀ kvs : List (κ × V),(kvs.any fun kv=>decide (kv.1=k))=(y2o kvs k).isSome
 | []=>rfl
 | p :: r=>by
  rw [cG]
  by_cases e : p.1=k
  ·simp only [z8n e,decide_eq_true e,Bool.true_or,eG]
  ·rw [z8P e,decide_eq_false e,Bool.false_or]; exact z8D k r
theorem z5h (kvs : List (κ × V)) (k : κ) (v : V) : (z7x kvs k v).length≤kvs.length + 1:=by
 unfold z7x
 split
 ·rw [aq]; omega
 ·rw [aH,bb,dH]; omega
theorem RelO.isSome_eq {o : Option V} {u : Option Value} (r : RelO o u) : o.isSome=u.isSome:=by
 cases o with
 | none=>cases u with
  | none=>rfl
  | some _=>exact (show False from r).elim
 | some _=>cases u with
  | none=>exact (show False from r).elim
  | some _=>rfl
theorem KV.val {kvs : List (κ × V)} {vs : List (κ × Value)} (r : KV kvs vs) (k : κ) : RelO (y2o kvs k) (valueAt vs k):=by
 unfold KV at r
 induction r with
 | nil=>exact True.intro
 | @cons p q ps qs h t ih=>
  obtain ⟨h1,h2⟩:=h
  by_cases e : p.1=k
  ·have e' : q.1=k:=h1.symm.trans e
   have b : valueAt (q :: qs) k=some q.2:=by simp [valueAt,bC,e']
   rw [z8n e,b]; exact h2
  ·have e' : ¬ q.1=k:=fun z=>e (h1.trans z)
   have b : valueAt (q :: qs) k=valueAt qs k:=by simp [valueAt,bC,e']
   rw [z8P e,b]; exact ih
theorem KV.any {kvs : List (κ × V)} {vs : List (κ × Value)} (r : KV kvs vs) (k : κ) : (kvs.any fun kv=>decide (kv.1=k))=vs.any fun kv=>decide (kv.1=k):=by
 unfold KV at r
 induction r with
 | nil=>rfl
 | cons h t ih=>rw [cG,cG,ih,h.1]
theorem KV.repl {kvs : List (κ × V)} {vs : List (κ × Value)} (r : KV kvs vs) (k : κ) {y : V} {u : Value} (ry : RelV y u) :
  KV (kvs.map fun kv=>if kv.1=k then (kv.1,y) else kv) (vs.map fun kv=>if kv.1=k then (kv.1,u) else kv):=by
 unfold KV at r ⊢
 induction r with
 | nil=>exact .nil
 | @cons p q ps qs h t ih=>
  rw [aM,aM]
  refine .cons ?_ ih
  obtain ⟨h1,h2⟩:=h
  by_cases e : p.1=k
  ·rw [if_pos e,if_pos (h1.symm.trans e)]; exact ⟨h1,ry⟩
  ·rw [if_neg e,if_neg (fun z=>e (h1.trans z))]; exact ⟨h1,h2⟩
theorem KV.put {kvs : List (κ × V)} {vs : List (κ × Value)} (r : KV kvs vs) (k : κ) {y : V} {u : Value} (ry : RelV y u) : KV (z7x kvs k y) (stored vs k u):=by
 unfold z7x stored
 rw [r.any k]
 by_cases e : (vs.any fun kv=>decide (kv.1=k))=true
 ·rw [if_pos e,if_pos e]; exact r.repl k ry
 ·rw [if_neg e,if_neg e]; exact Paired.snoc r ⟨rfl,ry⟩
theorem KV.keys {kvs : List (κ × V)} {vs : List (κ × Value)} (r : KV kvs vs) : kvs.map (·.1)=vs.map (·.1):=by
 unfold KV at r
 induction r with
 | nil=>rfl
 | cons h t ih=>rw [aM,aM,ih,h.1]
theorem KV.length {kvs : List (κ × V)} {vs : List (κ × Value)} (r : KV kvs vs) : kvs.length=vs.length:=Paired.length r
end
theorem y5k {P : Program} {w : World} {k : Key} {u : Value} (r : RelV (kV k) u) : (z1p P w).is k u=true:=by
 cases k with
 | inl i=>obtain ⟨t,e⟩:=(show ∃ t,u=Value.int i t from r); subst e; exact y1x P w i t
 | inr x=>obtain ⟨t,e⟩:=(show ∃ t,u=Value.str x t from r); subst e; exact y0Q P w x t
theorem z9V {P : Program} {w : World} : ∀ {ks : List Key} {us : List Value},Vals (ks.map kV) us->ItemsAre (z1p P w) ks us
 | [],_,r=>by rw [c7] at r; cases r; exact .nil
 | k :: ks,_,r=>by
  rw [aM] at r
  cases r with
  | cons h t=>exact .cons (y5k h) (z9V t)
abbrev KT (H : Hp) : List (List Key × V)->List (List Key × Addr × Value)->Prop:=Paired fun p q=>p.1=q.1∧H q.2.1=some (.tup (p.1.map kV))∧RelV p.2 q.2.2
theorem KT.val {H : Hp} {kvs : List (List Key × V)} {xs : List (List Key × Addr × Value)} (r : KT H kvs xs) (k : List Key) : RelO (y2o kvs k) ((atKey xs k).map (·.2)):=by
 induction r with
 | nil=>exact True.intro
 | @cons p q ps qs h t ih=>
  obtain ⟨h1,_,h2⟩:=h
  by_cases e : p.1=k
  ·have e' : q.1=k:=h1.symm.trans e
   have b : atKey (q :: qs) k=some q.2:=by simp [atKey,bC,e']
   rw [z8n e,b]; exact h2
  ·have e' : ¬ q.1=k:=fun z=>e (h1.trans z)
   have b : atKey (q :: qs) k=atKey qs k:=by simp [atKey,bC,e']
   rw [z8P e,b]; exact ih
theorem KT.repl {H : Hp} {kvs : List (List Key × V)} {xs : List (List Key × Addr × Value)} (r : KT H kvs xs) (k : List Key) {y : V} {u : Value} (ry : RelV y u) :
  KT H (kvs.map fun kv=>if kv.1=k then (kv.1,y) else kv) (xs.map (putAt k u)):=by
 induction r with
 | nil=>exact .nil
 | @cons p q ps qs h t ih=>
  rw [aM,aM]
  refine .cons ?_ ih
  obtain ⟨h1,h2,h3⟩:=h
  unfold putAt
  by_cases e : p.1=k
  ·rw [if_pos e,if_pos (h1.symm.trans e)]; exact ⟨h1,h2,ry⟩
  ·rw [if_neg e,if_neg (fun z=>e (h1.trans z))]; exact ⟨h1,h2,h3⟩
theorem KT.put {H : Hp} {kvs : List (List Key × V)} {xs : List (List Key × Addr × Value)} (r : KT H kvs xs) (k : List Key) {b : Addr} {y : V} {u : Value} (hb : H b=some (.tup (k.map kV))) (ry : RelV y u) :
  KT H (z7x kvs k y) (storedH xs k b u):=by
 have e : (kvs.any fun kv=>decide (kv.1=k))=(atKey xs k).isSome:=by
  rw [z8D,(r.val k).isSome_eq,cY]
 unfold z7x storedH
 rw [e]
 by_cases q : (atKey xs k).isSome=true
 ·rw [if_pos q,if_pos q]; exact r.repl k ry
 ·rw [if_neg q,if_neg q]; exact Paired.snoc r ⟨rfl,hb,ry⟩
theorem KT.keeps {H H' : Hp} {kvs : List (List Key × V)} {xs : List (List Key × Addr × Value)} (r : KT H kvs xs) (ht : ∀ b ys,H b=some (.tup ys)->H' b=some (.tup ys)) : KT H' kvs xs:=
 Paired.mapP r fun _ _ z=>⟨z.1,ht _ _ z.2.1,z.2.2⟩
section
variable {P : Program} {w : World} {H : Hp} {h : Heap} {a : Addr}
theorem rd_of {u : HO} (ok : HOk P w H h) (e : Rd H a u) : ObjOk P w H h a u:=e.ok ok
theorem dk_rd {kvs : List (Key × V)} (ok : HOk P w H h) (e : Rd H a (.dK kvs)) : kvs.length≤sizeLine∧(a == sysModules)=false∧∃ vs,KV kvs vs∧h.DictOf (z1p P w) a vs:=
 show ObjOk P w H h a (.dK kvs) from rd_of ok e
theorem dk_of {kvs : List (Key × V)} (ok : HOk P w H h) (e : H a=some (.dK kvs)) : kvs.length≤sizeLine∧(a == sysModules)=false∧∃ vs,KV kvs vs∧h.DictOf (z1p P w) a vs:=dk_rd ok (.inl e)
theorem y1S {ks : List Key} (ok : HOk P w H h) (e : H a=some (.tup (ks.map kV))) : (tupleKind (z1p P w)).is h ks a:=by
 obtain ⟨_,its,r,o,h1,h2,n,h3⟩:=(show ObjOk P w H h a (.tup (ks.map kV)) from ok a _ e)
 exact ⟨o,its.toArray,n,h1,h2.1,h3,by simpa using z9V r⟩
theorem dt_rd {kvs : List (List Key × V)} (ok : HOk P w H h) (e : Rd H a (.dT kvs)) : kvs.length≤sizeLine∧(a == sysModules)=false ∧
  ∃ xs,KT H kvs xs∧h.DictOfH (tupleKind (z1p P w)) a xs:=by
 obtain ⟨z,y,xs,r,o,es,ep,h1,h2,h3,h4,h5⟩:=(show ObjOk P w H h a (.dT kvs) from rd_of ok e)
 refine ⟨z,y,xs,r,o,es,ep,h1,h2,h3,h4,fun x hx=>?_,h5⟩
 have all : ∀ {l : List (List Key × V)} {m : List (List Key × Addr × Value)},KT H l m->∀ x∈m,(tupleKind (z1p P w)).is h x.1 x.2.1:=by
  intro l m q
  induction q with
  | nil=>intro x hx; exact nomatch hx
  | @cons p q ps qs hq t ih=>
   intro x hx
   rcases aj.mp hx with e | hx
   ·subst e
    exact y1S ok (by rw [← hq.1]; exact hq.2.1)
   ·exact ih x hx
 exact all r x hx
theorem dt_of {kvs : List (List Key × V)} (ok : HOk P w H h) (e : H a=some (.dT kvs)) : kvs.length≤sizeLine∧(a == sysModules)=false ∧
  ∃ xs,KT H kvs xs∧h.DictOfH (tupleKind (z1p P w)) a xs:=dt_rd ok (.inl e)
end
def DGet (H : Hp) (a : Addr) (y : V) (r : Option V) : Prop:=
 (∃ kvs k,Rd H a (.dK kvs)∧y=kV k∧r=y2o kvs k)∨∃ kvs k b,Rd H a (.dT kvs)∧y = .ref b∧H b=some (.tup (k.map kV))∧r=y2o kvs k
def DPut (H : Hp) (a : Addr) (y v : V) (H' : Hp) : Prop:=
 (∃ kvs k,H a=some (.dK kvs)∧y=kV k∧kvs.length < sizeLine∧H'=upd H a (.dK (z7x kvs k v))) ∨
 ∃ kvs k b,H a=some (.dT kvs)∧y = .ref b∧H b=some (.tup (k.map kV))∧kvs.length < sizeLine∧H'=upd H a (.dT (z7x kvs k v))
theorem DGet.k {H : Hp} {a : Addr} {kvs : List (Key × V)} {k : Key} (e : H a=some (.dK kvs)) : DGet H a (kV k) (y2o kvs k):=.inl ⟨kvs,k,.inl e,rfl,rfl⟩
theorem DPut.k {H : Hp} {a : Addr} {kvs : List (Key × V)} {k : Key} {v : V} (e : H a=some (.dK kvs)) (hl : kvs.length < sizeLine) : DPut H a (kV k) v (upd H a (.dK (z7x kvs k v))):=.inl ⟨kvs,k,e,rfl,hl,rfl⟩
section
variable {X : Cx} {pins : List (Addr × Obj)} {σ : St} {H : Hp} {s : Shared} {a : Addr} {y v : V} {u r : Value} {o : Option V} {A : Around} {E : Value->Shared->Prop}
theorem Inv.big (I : Inv X pins σ H s) : sysModules < s.heap.objs.size:=by
 have h : mainGlobals < s.heap.objs.size:=(I.mod.glob.keeps I.bk).lt
 exact Nat.lt_trans (by decide) h
theorem d_in {Q : Value->Shared->Prop} (hu : A.units + 1 < cLine) (I : Inv X pins σ H s) (g : DGet H a y o) (ry : RelV y u) (h : ∀ s',Inv X pins σ H s'->Q (.bool o.isSome) s') :
  wpAny (model X.prog X.w) A (compareOp .In u (.ref a)) Q E s:=by
 rcases g with ⟨kvs,k,e,ey,l⟩ | ⟨kvs,k,b,e,ey,eb,l⟩
 ·subst ey
  obtain ⟨z,hd,vs,rel,dd⟩:=dk_rd I.hok e
  refine wpAny_in_of (y5k ry) hd dd.mapOf ?_
  rw [← (rel.val k).isSome_eq,← l]
  exact h _ (I.tok _)
 ·subst ey
  cases (show u=Value.ref b from ry)
  obtain ⟨z,hd,xs,rel,dd⟩:=dt_rd I.hok e
  refine wpAny_in_heap (tupleKind_room_in1 hu) (y1S I.hok eb) hd dd ?_
  have q:=(rel.val k).isSome_eq
  rw [cY] at q
  rw [← q,← l]
  exact h _ (I.tok _)
theorem d_notIn {Q : Value->Shared->Prop} (hu : A.units + 1 < cLine) (I : Inv X pins σ H s) (g : DGet H a y o) (ry : RelV y u) (h : ∀ s',Inv X pins σ H s'->Q (.bool (!o.isSome)) s') :
  wpAny (model X.prog X.w) A (compareOp .NotIn u (.ref a)) Q E s:=by
 rcases g with ⟨kvs,k,e,ey,l⟩ | ⟨kvs,k,b,e,ey,eb,l⟩
 ·subst ey
  obtain ⟨z,hd,vs,rel,dd⟩:=dk_rd I.hok e
  refine wpAny_notIn_of (y5k ry) hd dd.mapOf ?_
  rw [← (rel.val k).isSome_eq,← l]
  exact h _ (I.tok _)
 ·subst ey
  cases (show u=Value.ref b from ry)
  obtain ⟨z,hd,xs,rel,dd⟩:=dt_rd I.hok e
  refine wpAny_notIn_heap (tupleKind_room_in1 hu) (y1S I.hok eb) hd dd ?_
  have q:=(rel.val k).isSome_eq
  rw [cY] at q
  rw [← q,← l]
  exact h _ (I.tok _)
theorem y1c {h' : Heap} {t' : Nat} {ob : HO} (I : Inv X pins σ H s) (mu : Mut (H a)) (hs : Heap.SameBut a s.heap h') (he : ∃ q,h'.get? a=some q) (new : ObjOk X.prog X.w (upd H a ob) h' a ob) :
  Inv X pins σ (upd H a ob) { s with heap:=h',toks:=t' }:=
 I.write (x:=a) (e:=a) mu (.inl rfl) (fun b q hb z=>(hs.2 b hb).trans z) he new
theorem x0Q {P : Program} {w : World} {H' : Hp} {h' : Heap} {kvs : List (Key × V)} {vs : List (Key × Value)} (z : kvs.length≤sizeLine) (hd : (a == sysModules)=false) (rel : KV kvs vs) (dd : h'.DictOf (z1p P w) a vs) :
  ObjOk P w H' h' a (.dK kvs):=⟨z,hd,vs,rel,dd⟩
theorem y7d {H' : Hp} {Q : Unit->Shared->Prop} (hu : A.units + 1 < cLine) (I : Inv X pins σ H s) (g : DPut H a y v H') (ry : RelV y u) (rv : RelV v r) (h : ∀ s',Inv X pins σ H' s'->Q () s') :
  wpAny (model X.prog X.w) A (setItem (.ref a) u r) Q E s:=by
 rcases g with ⟨kvs,k,e,ey,l,eH⟩ | ⟨kvs,k,b,e,ey,eb,l,eH⟩
 ·subst ey eH
  obtain ⟨z,hd,vs,rel,dd⟩:=dk_of I.hok e
  have hz : vs.length≤sizeLine:=by rw [← rel.length]; exact z
  have hl : (z7x kvs k v).length≤sizeLine:=by have:=z5h kvs k v; omega
  refine wpAny_setItem_pairs (hsz:=hz) (y5k ry) dd fun h' dd' hs=>h _ ?_
  have he : ∃ q,h'.get? a=some q:=let ⟨q,_,_,hq,_⟩:=dd'; ⟨q,hq⟩
  exact y1c I (by rw [e]; exact True.intro) hs he (x0Q hl hd (rel.put k rv) dd')
 ·subst ey eH
  cases (show u=Value.ref b from ry)
  obtain ⟨z,hd,xs,rel,dd⟩:=dt_of I.hok e
  have hz : xs.length≤sizeLine:=by rw [← Paired.length rel]; exact z
  have hl : (z7x kvs k v).length≤sizeLine:=by have:=z5h kvs k v; omega
  refine wpAny_setItem_heap (hsz:=hz) (tupleKind_room_in1 hu) (y1S I.hok eb) dd fun h' dd' hs=>h _ ?_
  obtain ⟨q,es,ep,hq,h2,h3,h4,_,h5⟩:=dd'
  refine y1c I (by rw [e]; exact True.intro) hs ⟨q,hq⟩ ⟨hl,hd,_,(rel.put k eb rv).keeps fun c ys ec=>?_,q,es,ep,hq,h2,h3,h4,h5⟩
  rw [z0A (ne_of ec e (fun z=>nomatch z))]
  exact ec
end
section
variable {X : Cx} {pins : List (Addr × Obj)} {σ : St} {H : Hp} {s : Shared} {a : Addr} {kvs : List (Key × V)} {k : Key} {u : Value} {A : Around} {E : Value->Shared->Prop}
end
def tDIn (ty td : TE) : TE:=fun σ H Q=>ty σ H fun y H1=>td σ H1 fun x H2=>∃ a o,x = .ref a∧DGet H2 a y o∧Q (.bl o.isSome) H2
def tDNotIn (ty td : TE) : TE:=fun σ H Q=>ty σ H fun y H1=>td σ H1 fun x H2=>∃ a o,x = .ref a∧DGet H2 a y o∧Q (.bl (!o.isSome)) H2
def sDPut (td ty tv : TE) : TS:=fun D σ H=>tv σ H fun v H1=>td σ H1 fun x H2=>ty σ H2 fun y H3=>∃ a H4,x = .ref a∧DPut H3 a y v H4∧D.nx σ H4
section
variable {X : Cx} {o i e value : Expr} {pos pos' tpos : Pos} {td ty tv : TE}
theorem pc_din (hu : X.A.units + 1 < cLine) (hi : PE X i ty) (ho : PE X o td) : PC X .In i o (tDIn ty td):=by
 intro pins s σ H Q I h
 refine thn (hi pins s σ H _ I h) fun iv s1 ⟨y,H1,I1,ry,q1⟩=>thn (ho pins s1 σ H1 _ I1 q1) fun u s2 ⟨x,H2,I2,rx,a,ov,ex,g,q2⟩=>?_
 subst ex
 obtain rfl : u=Value.ref a:=rx
 exact d_in hu I2 g ry fun s3 I3=>⟨.bl ov.isSome,H2,I3,rfl,q2⟩
theorem y7h (hu : X.A.units + 1 < cLine) (hi : PE X i ty) (ho : PE X o td) : PC X .NotIn i o (tDNotIn ty td):=by
 intro pins s σ H Q I h
 refine thn (hi pins s σ H _ I h) fun iv s1 ⟨y,H1,I1,ry,q1⟩=>thn (ho pins s1 σ H1 _ I1 q1) fun u s2 ⟨x,H2,I2,rx,a,ov,ex,g,q2⟩=>?_
 subst ex
 obtain rfl : u=Value.ref a:=rx
 exact d_notIn hu I2 g ry fun s3 I3=>⟨.bl (!ov.isSome),H2,I3,rfl,q2⟩
theorem ps_dput (hu : X.A.units + 1 < cLine) (ho : PE X o td) (hi : PE X i ty) (hv : PE X value tv) (hs : swapsWith value (some (.Subscript o i pos')) pos.line X.env=pure false) :
  PS X (.Assign [.Subscript o i pos'] value pos) (sDPut td ty tv):=by
 intro pins s σ H D I h
 refine wpAny_Assign_Subscript (thn (hv pins s σ H _ I h) fun r s1 ⟨v,H1,I1,rv,q1⟩=>thn (ho pins s1 σ H1 _ I1 q1) fun u s2 ⟨x,H2,I2,rx,q2⟩=>thn (hi pins s2 σ H2 _ I2 q2) fun iv s3 ⟨y,H3,I3,ry,a,H4,ex,g,q3⟩=>?_) hs
 subst ex
 obtain rfl : u=Value.ref a:=rx
 exact y7d hu I3 g ry rv fun s4 I4=>⟨σ,H4,I4,q3⟩
end
theorem y1Y {P : Program} {w : World} {H : Hp} (h : Heap) (hb : sysModules < h.objs.size) : ObjOk P w H (h.push { cls:=.type "dict",data:=.dict #[] }) h.objs.size (.dK []):=
 ⟨bu _,beq_eq_false_iff_ne.mpr (Ne.symm (aF hb)),[],.nil,Heap.DictOf.new h⟩
def tDNewK : TE:=fun _ H Q=>∀ p,H p=none->Q (.ref p) (upd H p (.dK []))
section
variable {X : Cx} {pos : Pos}
theorem pe_dnewK : PE X (.Dict [] [] pos) tDNewK:=fun pins s σ H Q I h=>
 wpAny_Dict_empty ⟨.ref s.heap.objs.size,_,I.laid (a:=s.heap.objs.size) (o:=.dK []) (t':=s.toks) (fun _ _ q=>Heap.get?_push_of_some _ q) (ar _) (y1Y s.heap I.big),rfl,h _ (I.hok.fresh (ar _))⟩
end
def y7e : List (TE × TE)->St->Hp->(List (V × V)->Hp->Prop)->Prop
 | [],_,H,Q=>Q [] H
 | (tk,tv) :: r,σ,H,Q=>tk σ H fun x H1=>tv σ H1 fun y H2=>y7e r σ H2 fun ps H3=>Q ((x,y) :: ps) H3
abbrev VV : List (V × V)->List (Value × Value)->Prop:=Paired fun p q=>RelV p.1 q.1∧RelV p.2 q.2
def PPs (X : Cx) (pos : Pos) (keys : List (Option Expr)) (values : List Expr) (trs : List (TE × TE)) : Prop:=
 ∀ (pins : List (Addr × Obj)) (s : Shared) (σ : St) (H : Hp) (Q : List (V × V)->Hp->Prop),Inv X pins σ H s->y7e trs σ H Q →
  wpAny (model X.prog X.w) X.A (evalPairs (pairTrees keys values X.env pos)) (fun vs s'=>∃ ps H',Inv X pins σ H' s'∧VV ps vs∧Q ps H') X.xe s
theorem pps_nil {X : Cx} {pos : Pos} : PPs X pos [] [] []:=fun pins s σ H Q I h=>pairTrees_nil_walk ⟨[],H,I,.nil,h⟩
theorem y9f {X : Cx} {pos : Pos} {k v : Expr} {ks : List (Option Expr)} {vs : List Expr} {tk tv : TE} {trs : List (TE × TE)} (hk : PE X k tk) (hv : PE X v tv) (hr : PPs X pos ks vs trs) :
  PPs X pos (some k :: ks) (v :: vs) ((tk,tv) :: trs):=fun pins s σ H Q I h=>
 pairTrees_cons_walk (thn (hk pins s σ H _ I h) fun u s1 ⟨x,H1,I1,rx,q1⟩=>thn (hv pins s1 σ H1 _ I1 q1) fun w2 s2 ⟨y,H2,I2,ry,q2⟩=>
  thn (hr pins s2 σ H2 _ I2 q2) fun ws s3 ⟨ps,H3,I3,rel,q3⟩=>⟨(x,y) :: ps,H3,I3,.cons ⟨rx,ry⟩ rel,q3⟩)
def y0v (kvs more : List (Key × V)) : List (Key × V):=more.foldl (fun acc kv=>z7x acc kv.1 kv.2) kvs
theorem KV.merge : ∀ {more : List (Key × V)} {rs : List (Key × Value)} {kvs : List (Key × V)} {vs : List (Key × Value)},KV more rs->KV kvs vs->KV (y0v kvs more) (merged vs rs):=by
 intro more rs kvs vs r
 unfold KV at r
 induction r generalizing kvs vs with
 | nil=>intro q; exact q
 | @cons p q ps qs h t ih=>
  intro r0
  have e : KV (z7x kvs p.1 p.2) (stored vs q.1 q.2):=by
   have:=r0.put p.1 h.2
   rw [← h.1]; exact this
  exact ih e
theorem z5m : ∀ (more kvs : List (Key × V)),(y0v kvs more).length≤kvs.length + more.length
 | [],kvs=>by show kvs.length≤kvs.length + 0; omega
 | p :: r,kvs=>by
  have h1:=z5m r (z7x kvs p.1 p.2)
  have h2:=z5h kvs p.1 p.2
  show (y0v (z7x kvs p.1 p.2) r).length≤_
  rw [bb]; omega
theorem z7Q {P : Program} {w : World} : ∀ {kvs : List (Key × V)} {ws : List (Value × Value)},VV (kvs.map fun kv=>(kV kv.1,kv.2)) ws->∃ rs,Carries (z1p P w) ws rs∧KV kvs rs
 | [],_,r=>by rw [c7] at r; cases r; exact ⟨[],True.intro,.nil⟩
 | p :: kvs,_,r=>by
  rw [aM] at r
  cases r with
  | @cons a b as bs h t=>
   obtain ⟨rs,c,q⟩:=z7Q (P:=P) (w:=w) t
   obtain ⟨b1,b2⟩:=b
   exact ⟨(p.1,b2) :: rs,⟨y5k h.1,rfl,c⟩,.cons ⟨rfl,h.2⟩ q⟩
def tDisp (trs : List (TE × TE)) : TE:=fun σ H Q=>∀ p,H p=none->y7e trs σ (upd H p (.dK [])) fun ps H2=>H2 p=some (.dK [])∧∃ kvs : List (Key × V),ps=kvs.map (fun kv=>(kV kv.1,kv.2))∧kvs.length≤15∧Q (.ref p) (upd H2 p (.dK (y0v [] kvs)))
theorem pe_disp {X : Cx} {pos : Pos} {keys : List (Option Expr)} {values : List Expr} {trs : List (TE × TE)} (h : PPs X pos keys values trs) (hall : keys.all (·.isSome)=true) (hl : keys.length=values.length) (h0 : keys≠[])
  (h15 : keys.length≤15) : PE X (.Dict keys values pos) (tDisp trs):=by
 intro pins s σ H Q I q
 have hn:=I.hok.fresh (ar s.heap.objs.size)
 have I1:=I.laid (a:=s.heap.objs.size) (o:=.dK []) (h':=s.heap.push { cls:=.type "dict",data:=.dict #[] }) (t':=s.toks) (fun _ _ q=>Heap.get?_push_of_some _ q) (ar _) (y1Y s.heap I.big)
 refine wpAny_Dict_walk (knd:=z1p X.prog X.w) hall hl h0 h15 (thn (h pins _ σ _ _ I1 (q _ hn)) fun ws s2 ⟨ps,H2,I2,rel,e,kvs,ep,lk,q2⟩=>?_)
 subst ep
 obtain ⟨rs,c,rk⟩:=z7Q (P:=X.prog) (w:=X.w) rel
 obtain ⟨z,hd,vs0,r0,dd⟩:=dk_of I2.hok e
 cases r0
 refine ⟨rs,c,dd,fun h' dd' hs=>⟨.ref s.heap.objs.size,_,?_,rfl,q2⟩⟩
 have hz : (y0v [] kvs).length≤sizeLine:=by
  have h1:=z5m kvs []
  rw [dH] at h1
  rw [sizeLine_eq]; omega
 have he : ∃ q,h'.get? s.heap.objs.size=some q:=let ⟨q,_,_,hq,_⟩:=dd'; ⟨q,hq⟩
 exact y1c I2 (by rw [e]; exact True.intro) hs he (x0Q hz hd (rk.merge .nil) dd')
structure M1 (X : Cx) (o : Expr) (m : Str) (apos : Pos) (e : Expr) (cpos : Pos) : Prop where
 base : attributeBase o m X.env (eval o X.env)=eval o X.env
 few : ((backTo cpos (starEach [e] X.env)).all (fun x=>!x.1) && (backToKw cpos (keywordEach [] X.env)).all (fun x=>x.1.isSome)
  && decide (([e] : List Expr).length + ([] : List Keyword).length + (if ([] : List Keyword).isEmpty then 0 else 1) < 30))=true
 line : (apos.endLine == cpos.line)=true
 trees : backTo cpos (starEach [e] X.env)=[(false,eval e X.env)]
structure M2 (X : Cx) (o : Expr) (m : Str) (apos : Pos) (e f : Expr) (cpos : Pos) : Prop where
 base : attributeBase o m X.env (eval o X.env)=eval o X.env
 few : ((backTo cpos (starEach [e,f] X.env)).all (fun x=>!x.1) && (backToKw cpos (keywordEach [] X.env)).all (fun x=>x.1.isSome)
  && decide (([e,f] : List Expr).length + ([] : List Keyword).length + (if ([] : List Keyword).isEmpty then 0 else 1) < 30))=true
 line : (apos.endLine == cpos.line)=true
 trees : backTo cpos (starEach [e,f] X.env)=[(false,eval e X.env),(false,eval f X.env)]
section
variable {X : Cx} {pins : List (Addr × Obj)} {σ : St} {H : Hp} {s : Shared} {a : Addr} {y d : V} {u r : Value} {o : Option V} {A : Around} {E : Value->Shared->Prop}
end
section
variable {X : Cx} {o e f : Expr} {apos cpos : Pos} {td ty tx : TE}
end
section
variable {X : Cx} {pins : List (Addr × Obj)} {σ : St} {H : Hp} {s : Shared} {a : Addr} {kvs : List (Key × V)} {A : Around} {E : Value->Shared->Prop}
end
section
variable {X : Cx} {pins : List (Addr × Obj)} {σ : St} {H : Hp} {s : Shared} {a : Addr} {y : V} {u : Value} {A : Around} {E : Value->Shared->Prop}
end
end L2
namespace L2
open PySem PySem.Spec PyProof.Rows
def z3b (cells : List (Str × Addr)) : List (Str × NameKind)->List (Str × Addr)->List (Str × Addr)
 | [],acc=>acc
 | (n,k) :: r,acc=>if k == .free then z3b cells r ((n,(cells.lookup n).getD 0) :: acc) else z3b cells r acc
theorem z6R {env : Env} (f : Str × NameKind->List (Str × Addr)->Sem (ForInStep (List (Str × Addr))))
  (hf : ∀ n k cs,f (n,k) cs=if k == .free then (do let a ← cellOf env n; pure (.yield ((n,a) :: cs))) else pure (.yield cs)) :
  ∀ (names : List (Str × NameKind)) (acc : List (Str × Addr)),(∀ n,(n,NameKind.free)∈names->∃ c,env.cells.lookup n=some c)->forIn names acc f=pure (z3b env.cells names acc)
 | [],acc,_=>by rw [List.forIn_nil]; rfl
 | (n,k) :: r,acc,h=>by
  have hr:=z6R f hf r
  rw [List.forIn_cons,hf]
  unfold z3b
  by_cases hk : (k == NameKind.free)=true
  ·rw [if_pos hk,if_pos hk]
   have ek : k = .free:=eq_of_beq hk
   subst ek
   obtain ⟨c,e⟩:=h n ac
   have e1 : cellOf env n=pure c:=by unfold cellOf; rw [e]
   rw [e1,e]
   exact hr _ fun m hm=>h m (af _ hm)
  ·rw [if_neg hk,if_neg hk]
   exact hr _ fun m hm=>h m (af _ hm)
theorem z1F {scope : Scope} {env : Env} (h : ∀ n,(n,NameKind.free)∈scope.names->∃ c,env.cells.lookup n=some c) : closureFor scope env=pure (z3b env.cells scope.names []):=by
 simp only [closureFor]
 rw [z6R _ (fun n k cs=>by cases hkc : k == NameKind.free <;> simp [hkc]) scope.names [] h]
 rfl
theorem z4e {cells : List (Str × Addr)} : ∀ (names : List (Str × NameKind)) (acc : List (Str × Addr)) {x : Str} {c : Addr},(x,c)∈z3b cells names acc->(x,c)∈acc∨((x,NameKind.free)∈names∧c=(cells.lookup x).getD 0)
 | [],_,_,_,h=>.inl h
 | (n,k) :: r,acc,x,c,h=>by
  unfold z3b at h
  by_cases hk : (k == NameKind.free)=true
  ·rw [if_pos hk] at h
   have ek : k = .free:=eq_of_beq hk
   subst ek
   rcases z4e r _ h with z | ⟨z1,z2⟩
   ·rcases aj.mp z with q | q
    ·cases q
     exact .inr ⟨ac,rfl⟩
    ·exact .inl q
   ·exact .inr ⟨af _ z1,z2⟩
  ·rw [if_neg hk] at h
   rcases z4e r _ h with z | ⟨z1,z2⟩
   ·exact .inl z
   ·exact .inr ⟨af _ z1,z2⟩
theorem z3h {α : Type} {x : Str} {c : α} : ∀ {l : List (Str × α)},(x,c)∈l->(l.lookup x).isSome=true
 | (n,d) :: r,h=>by
  rw [b8]
  cases hb : x == n with
  | true=>rfl
  | false=>
   rcases aj.mp h with q | q
   ·cases q
    simp at hb
   ·exact z3h q
theorem z7g {cells : List (Str × Addr)} {x : Str} : ∀ (names : List (Str × NameKind)) (acc : List (Str × Addr)),(x,NameKind.free)∈names∨(∃ c,(x,c)∈acc)->∃ c,(x,c)∈z3b cells names acc
 | [],_,h=>h.elim (fun z=>nomatch z) id
 | (n,k) :: r,acc,h=>by
  unfold z3b
  by_cases hk : (k == NameKind.free)=true
  ·rw [if_pos hk]
   refine z7g r _ ?_
   rcases h with z | ⟨c,z⟩
   ·rcases aj.mp z with q | q
    ·cases q
     exact .inr ⟨_,ac⟩
    ·exact .inl q
   ·exact .inr ⟨c,af _ z⟩
  ·rw [if_neg hk]
   refine z7g r _ ?_
   rcases h with z | z
   ·rcases aj.mp z with q | q
    ·cases q
     exact absurd (by rfl) hk
    ·exact .inl q
   ·exact .inr z
theorem z3E : ∀ (names : List (Str × NameKind)) (h : Heap) (acc : List (Str × Addr)) {x : Str} {c : Addr},(x,c)∈cellsFrom h.objs.size names acc →
  (x,c)∈acc∨((x,NameKind.cell)∈names∧h.objs.size≤c∧(pushCells h names).IsCell c none)
 | [],_,_,_,_,hm=>.inl hm
 | (n,k) :: r,h,acc,x,c,hm=>by
  unfold cellsFrom at hm
  unfold pushCells
  by_cases hk : (k == NameKind.cell)=true
  ·rw [if_pos hk] at hm
   rw [if_pos hk]
   have ek : k = .cell:=eq_of_beq hk
   subst ek
   have e : (h.push { cls:=.type "cell",data:=.cell none }).objs.size=h.objs.size + 1:=Heap.size_push ..
   rw [← e] at hm
   rcases z3E r _ _ hm with z | ⟨z1,z2,z3⟩
   ·rcases aj.mp z with q | q
    ·cases q
     exact .inr ⟨ac,ar _,⟨_,pushCells_keeps r _ _ _ (Heap.get?_push_size _ rfl),rfl⟩⟩
    ·exact .inl q
   ·exact .inr ⟨af _ z1,by omega,z3⟩
  ·rw [if_neg hk] at hm
   rw [if_neg hk]
   rcases z3E r h acc hm with z | ⟨z1,z2,z3⟩
   ·exact .inl z
   ·exact .inr ⟨af _ z1,z2,z3⟩
theorem z3H {x : Str} : ∀ (names : List (Str × NameKind)) (n : Nat) (acc : List (Str × Addr)),(x,NameKind.cell)∈names∨(∃ c,(x,c)∈acc)->∃ c,(x,c)∈cellsFrom n names acc
 | [],_,_,h=>h.elim (fun z=>nomatch z) id
 | (y,k) :: r,n,acc,h=>by
  unfold cellsFrom
  by_cases hk : (k == NameKind.cell)=true
  ·rw [if_pos hk]
   refine z3H r _ _ ?_
   rcases h with z | ⟨c,z⟩
   ·rcases aj.mp z with q | q
    ·cases q
     exact .inr ⟨_,ac⟩
    ·exact .inl q
   ·exact .inr ⟨c,af _ z⟩
  ·rw [if_neg hk]
   refine z3H r _ _ ?_
   rcases h with z | z
   ·rcases aj.mp z with q | q
    ·cases q
     exact absurd (by rfl) hk
    ·exact .inl q
   ·exact .inr z
theorem z3J (lo : Nat) : ∀ (names : List (Str × NameKind)) (n : Nat) (acc : List (Str × Addr)),(∀ x y c,(x,c)∈acc->(y,c)∈acc->lo≤c->x=y)->(∀ p∈acc,p.2 < n) →
  ∀ x y c,(x,c)∈cellsFrom n names acc->(y,c)∈cellsFrom n names acc->lo≤c->x=y
 | [],_,_,h,_=>h
 | (m,k) :: r,n,acc,h,hb=>by
  unfold cellsFrom
  by_cases hk : (k == NameKind.cell)=true
  ·rw [if_pos hk]
   refine z3J lo r (n + 1) ((m,n) :: acc) (fun x y c hx hy hc=>?_) fun p hp=>?_
   ·rcases aj.mp hx with q | q <;> rcases aj.mp hy with q' | q'
    ·cases q; cases q'; rfl
    ·cases q
     exact absurd (hb _ q') (bi _)
    ·cases q'
     exact absurd (hb _ q) (bi _)
    ·exact h x y c q q' hc
   ·rcases aj.mp hp with q | q
    ·cases q; exact dB _
    ·exact cF (hb p q)
  ·rw [if_neg hk]
   exact z3J lo r n acc h hb
theorem z4M (env : Env) (x : Str) : ∀ names : List (Str × NameKind),
  (names.map fun (n,k)=>if (k == NameKind.free && env.scope.kind == .function && env.kindOf n == some .cell) then (n,NameKind.cell) else (n,k)).lookup x =
   (names.lookup x).map fun k=>if (k == NameKind.free && env.scope.kind == .function && env.kindOf x == some .cell) then NameKind.cell else k
 | []=>rfl
 | (n,k) :: r=>by
  have ih:=z4M env x r
  show List.lookup x ((if (k == NameKind.free && env.scope.kind == .function && env.kindOf n == some .cell)=true then (n,NameKind.cell) else (n,k)) :: _)=_
  cases hx : x == n with
  | true=>
   have e:=eq_of_beq hx
   subst e
   by_cases hc : (k == NameKind.free && env.scope.kind == .function && env.kindOf x == some .cell)=true
   ·rw [if_pos hc]
    simp only [b8,beq_self_eq_true,bH,hc,if_true]
   ·rw [if_neg hc]
    simp only [b8,beq_self_eq_true,bH]
    rw [if_neg hc]
  | false=>
   by_cases hc : (k == NameKind.free && env.scope.kind == .function && env.kindOf n == some .cell)=true
   ·rw [if_pos hc]; simp only [b8,hx]; exact ih
   ·rw [if_neg hc]; simp only [b8,hx]; exact ih
theorem z3j {M : Model} {A : Around} {E : Value->Shared->Prop} {s : Shared} {scope : Scope} {globals : Addr} {closure : List (Str × Addr)} {qual : Str} {env : Env} {Q : Env->Shared->Prop}
  (hQ : Q (newEnv scope s.heap.objs.size globals (cellsFrom (s.heap.objs.size + 1) scope.names closure) qual none .none (some env) builtinsNs)
   { s with heap:=pushCells (s.heap.push { cls:=.type "dict",data:=.dict #[] }) scope.names }) :
  wpAny M A (newFunctionEnv scope globals closure [] qual none .none (some env)) Q E s:=by
 simp only [newFunctionEnv,eG,if_true]
 refine wpAny_bind (wpAny_alloc ?_)
 refine wpAny_bind (wpAny_layCells _ (fun name kind cells=>by cases hkc : kind == NameKind.cell <;> simp [hkc]) _ _ _ _ ?_)
 rw [show ({ s with heap:=s.heap.push { cls:=.type "dict",data:=.dict #[] } } : Shared).heap.objs.size=s.heap.objs.size + 1 from Heap.size_push ..]
 refine wpAny_bind ?_
 rw [List.forIn_nil]
 exact wpAny_pure (wpAny_pure hQ)
def capOk (out names : List (Str × NameKind)) : Bool:=names.all fun p=>!(decide (p.2=NameKind.free)) || (decide (out.lookup p.1=some NameKind.cell) || decide (out.lookup p.1=some NameKind.free))
def nmOk (N N' : List Str) (names : List (Str × NameKind)) : Bool:=(ah N.length).all fun i=>match N'[i]? with
 | some y=>decide (names.lookup y=none) || (decide (names.lookup y=some NameKind.free) && decide (N[i]? = some y))
 | none=>false
structure CompScope (N : List Str) (out : List (Str × NameKind)) (N' : List Str) (k : Nat) (sc : Scope) : Prop where
 kind : sc.kind = .function
 len : N'.length=N.length + k
 cap : capOk out sc.names=true
 nm : nmOk N N' sc.names=true
 uniq : sc.names.all (fun p=>decide (sc.names.lookup p.1=some p.2))=true
def z0w (X : Cx) (N' : List Str) (sc : Scope) (s : Shared) (H : Hp) (fp : List Addr) (pins : List (Addr × Obj)) (E : Value->Shared->Prop) : Cx where
 prog:=X.prog
 w:=X.w
 K:=X.K
 mg:=X.mg
 base:=X.base
 A:=X.A
 N:=N'
 s₀:=s
 H₀:=H
 env:=compEnvC sc (cellsFrom (s.heap.objs.size + 1) sc.names (z3b X.env.cells sc.names [])) s.heap.objs.size X.env
 outer:=X.stack
 stack:=X.stack
 ex:=fp
 fn:=fun x=>decide (sc.names.lookup x=some .cell)
 calm:=X.calm
 pn:=X.pn ++ pins
 xe:=E
section
variable {X : Cx} {N' : List Str} {k : Nat} {sc : Scope} {pins : List (Addr × Obj)} {σ : St} {H : Hp} {s : Shared} {fp : List Addr} {E : Value->Shared->Prop}
theorem CompScope.fr (S : CompScope X.N X.env.scope.names N' k sc) {x : Str} (h : (x,NameKind.free)∈sc.names) : X.env.kindOf x=some .cell∨X.env.kindOf x=some .free:=by
 have q:=aT.mp S.cap _ h
 simp at q
 exact q
theorem CompScope.look {N : List Str} {out : List (Str × NameKind)} (S : CompScope N out N' k sc) {x : Str} {kd : NameKind} (h : (x,kd)∈sc.names) : sc.names.lookup x=some kd:=by
 have q:=aT.mp S.uniq _ h
 exact of_decide_eq_true q
theorem y9a (S : CompScope X.N X.env.scope.names N' k sc) (I : Inv X pins σ H s) (hf : ∀ b∈fp,y0A X pins H b) (hlt : ∀ b∈fp,b < s.heap.objs.size) :
  Inv (z0w X N' sc s H fp pins E) [] (σ ++ ae k none) H { s with heap:=pushCells (s.heap.push { cls:=.type "dict",data:=.dict #[] }) sc.names }:=by
 have keeps : ∀ b o,s.heap.get? b=some o->(pushCells (s.heap.push { cls:=.type "dict",data:=.dict #[] }) sc.names).get? b=some o:=fun b o e=>pushCells_keeps _ _ _ _ (Heap.get?_push_of_some _ e)
 have hsz : (s.heap.push { cls:=.type "dict",data:=.dict #[] }).objs.size=s.heap.objs.size + 1:=Heap.size_push ..
 have hns : (pushCells (s.heap.push { cls:=.type "dict",data:=.dict #[] }) sc.names).Ns s.heap.objs.size (fun _=>none):=(Heap.Ns.new s.heap (.type "dict")).keeps (pushCells_keeps _ _)
 have frc : ∀ x,(x,NameKind.free)∈sc.names->∃ c,X.env.cells.lookup x=some c:=fun x h=>I.ok.has x (S.fr h)
 have cm : ∀ x c,(x,c)∈cellsFrom (s.heap.objs.size + 1) sc.names (z3b X.env.cells sc.names []) →
   ((x,NameKind.cell)∈sc.names∧s.heap.objs.size + 1≤c∧(pushCells (s.heap.push { cls:=.type "dict",data:=.dict #[] }) sc.names).IsCell c none)∨((x,NameKind.free)∈sc.names∧X.env.cells.lookup x=some c):=fun x c h=>by
  rw [← hsz] at h
  rcases z3E _ _ _ h with z | ⟨z1,z2,z3⟩
  ·rcases z4e _ _ z with z | ⟨z1,z2⟩
   ·exact nomatch z
   ·obtain ⟨c',e⟩:=frc x z1
    rw [e] at z2
    cases z2
    exact .inr ⟨z1,e⟩
  ·exact .inl ⟨z1,by omega,z3⟩
 have cl : ∀ x c,(cellsFrom (s.heap.objs.size + 1) sc.names (z3b X.env.cells sc.names [])).lookup x=some c->(x,c)∈cellsFrom (s.heap.objs.size + 1) sc.names (z3b X.env.cells sc.names []):=fun x c h=>PySem.mem_of_lookup h
 have clt : ∀ x c,X.env.cells.lookup x=some c->c < s.heap.objs.size:=fun x c h=>by
  obtain ⟨v,q⟩:=I.cell x c h
  exact q.lt
 have has : ∀ x,(x,NameKind.cell)∈sc.names∨(x,NameKind.free)∈sc.names->∃ c,(cellsFrom (s.heap.objs.size + 1) sc.names (z3b X.env.cells sc.names [])).lookup x=some c:=fun x h=>by
  obtain ⟨c,hc⟩:=z3H (x:=x) sc.names (s.heap.objs.size + 1) (z3b X.env.cells sc.names []) (h.imp id fun z=>z7g _ _ (.inl z))
  exact cD.mp (z3h hc)
 have kd : ∀ x kk,(relabel sc X.env).names.lookup x=some kk->∃ k0,sc.names.lookup x=some k0∧(kk=k0∨(k0 = .free∧kk = .cell)):=fun x kk h=>by
  have q:=z4M X.env x sc.names
  have h' : (sc.names.map fun (n,k)=>if (k == NameKind.free && X.env.scope.kind == .function && X.env.kindOf n == some .cell) then (n,NameKind.cell) else (n,k)).lookup x=some kk:=h
  rw [q] at h'
  cases e : sc.names.lookup x with
  | none=>rw [e] at h'; cases h'
  | some k0=>
   rw [e] at h'
   simp only [bH,Option.some.injEq] at h'
   refine ⟨k0,rfl,?_⟩
   split at h'
   ·rename_i hc
    simp at hc
    exact .inr ⟨hc.1.1,h'.symm⟩
   ·exact .inl h'.symm
 refine ⟨⟨I.ok.mod,S.kind,I.ok.glob,I.ok.blt,ar _,?inj,?has,?cab,I.ok.hd,I.ok.frames,.inl rfl,?exf,I.bs,aJ I.ok.bsz I.sz,?noex,?exfs,I.stack,I.stkFree⟩,
  rfl,I.bare,Un.kept keeps,⟨_,hns,?loc⟩,?cell,I.hok.fresh (ar _),?freeC,?pin,I.hok.kept keeps,?len⟩
 case inj=>
  intro x y c h1 h2
  rcases cm x c (cl x c h1) with ⟨_,l1,_⟩ | ⟨m1,e1⟩
  ·rcases cm y c (cl y c h2) with ⟨_,l2,_⟩ | ⟨m2,e2⟩
   ·refine z3J (s.heap.objs.size + 1) sc.names (s.heap.objs.size + 1) (z3b X.env.cells sc.names []) (fun x y c hx _ hc=>?_) (fun p hp=>?_) x y c (cl x c h1) (cl y c h2) l1
    ·rcases z4e _ _ hx with z | ⟨z1,z2⟩
     ·exact nomatch z
     ·obtain ⟨c',e⟩:=frc x z1
      rw [e] at z2
      have z3 : c=c':=z2
      subst z3
      exact absurd (clt x c e) (dO.mpr (bM hc))
    ·obtain ⟨x,c⟩:=p
     rcases z4e _ _ hp with z | ⟨z1,z2⟩
     ·exact nomatch z
     ·obtain ⟨c',e⟩:=frc x z1
      rw [e] at z2
      have z3 : c=c':=z2
      subst z3
      exact cF (clt x c e)
   ·exact absurd (clt y c e2) (dO.mpr (bM l1))
  ·rcases cm y c (cl y c h2) with ⟨_,l2,_⟩ | ⟨m2,e2⟩
   ·exact absurd (clt x c e1) (dO.mpr (bM l2))
   ·exact I.ok.inj x y c e1 e2
 case has=>
  intro x hx
  refine has x ?_
  rcases hx with hx | hx
  ·obtain ⟨k0,e,h⟩:=kd x _ hx
   rcases h with h | ⟨h,_⟩
   ·subst h; exact .inl (PySem.mem_of_lookup e)
   ·subst h; exact .inr (PySem.mem_of_lookup e)
  ·obtain ⟨k0,e,h⟩:=kd x _ hx
   rcases h with h | ⟨_,h⟩
   ·subst h; exact .inr (PySem.mem_of_lookup e)
   ·cases h
 case cab=>
  intro x c hfn h
  have hfn' : sc.names.lookup x=some NameKind.cell:=of_decide_eq_true hfn
  rcases cm x c (cl x c h) with ⟨_,l,_⟩ | ⟨m,_⟩
  ·exact bM l
  ·rw [S.look m] at hfn'; cases hfn'
 case exf=>
  intro b hb
  refine ⟨aF (hlt b hb),fun x c h=>?_⟩
  rcases cm x c (cl x c h) with ⟨_,l,_⟩ | ⟨_,e⟩
  ·intro z
   subst z
   exact absurd (hlt c hb) (dO.mpr (bM l))
  ·exact (hf b hb).2.2.2.2.1 x c e
 case noex=>
  intro b o e hb
  rcases (hf b hb).2.2.2.1 with z | z
  ·exact I.ok.noex b o e z
  ·exact absurd (aI (Heap.lt_size e) (aJ I.ok.bsz z)) (bi _)
 case exfs=>exact fun b hb z=>(aj.mp (I.stkSub b z)).elim (hf b hb).2.1 (hf b hb).2.2.1
 case loc=>
  intro i y v h1 h2 h3
  have hl:=I.len
  by_cases hi : i < σ.length
  ·rw [aY hi] at h2
   have q:=aT.mp S.nm i (au.mpr (by omega))
   have h1' : N'[i]? = some y:=h1
   simp only [h1',Bool.or_eq_true,aK,decide_eq_true_eq] at q
   rcases q with q | ⟨q1,q2⟩
   ·exfalso
    rcases h3 with z | z | z <;> (obtain ⟨k0,e,_⟩:=kd y _ z; rw [q] at e; cases e)
   ·have hm:=PySem.mem_of_lookup q1
    obtain ⟨m,hn,hloc⟩:=I.loc
    have kk:=S.fr hm
    obtain ⟨u,r,l⟩:=hloc i y v q2 h2 (kk.elim (fun z=>.inr (.inl z)) fun z=>.inr (.inr z))
    refine ⟨u,r,.inr ⟨?_,?_⟩⟩
    ·rcases h3 with z | z | z
     ·obtain ⟨k0,e,h⟩:=kd y _ z
      rw [q1] at e
      cases e
      rcases h with h | ⟨_,h⟩ <;> cases h
     ·exact .inl z
     ·exact .inr z
    ·rcases l with ⟨l,_⟩ | ⟨_,c,ec,hc⟩
     ·rcases kk with z | z <;> (rw [z] at l; cases l)
     ·obtain ⟨c',e'⟩:=has y (.inr hm)
      refine ⟨c',e',?_⟩
      rcases cm y c' (cl y c' e') with ⟨m',_⟩ | ⟨_,e2⟩
      ·have:=S.look m'
       rw [q1] at this
       cases this
      ·rw [ec] at e2
       cases e2
       exact hc.keeps keeps
  ·rw [be (by omega),bv] at h2
   split at h2 <;> cases h2
 case cell=>
  intro x c h
  rcases cm x c (cl x c h) with ⟨_,_,q⟩ | ⟨_,e⟩
  ·exact ⟨_,q⟩
  ·obtain ⟨v,q⟩:=I.cell x c e
   exact ⟨v,q.keeps keeps⟩
 case freeC=>
  intro x c h
  rcases cm x c (cl x c h) with ⟨_,l,_⟩ | ⟨_,e⟩
  ·exact I.hok.fresh (bM l)
  ·exact I.freeC x c e
 case pin=>
  intro p hp
  have hp' : p∈X.pn ++ pins:=by
   rcases ay.mp hp with z | z
   ·exact z
   ·exact nomatch z
  obtain ⟨e,n,ne,nf,d⟩:=I.pin p hp'
  exact ⟨keeps _ _ e,n,aF (Heap.lt_size e),fun z=>(aj.mp (I.stkSub p.1 z)).elim ne nf,d⟩
 case len=>
  show _=N'.length
  rw [aH,ez,S.len,I.len]
theorem z5D {σ' : St} {H' : Hp} {s' : Shared} (I : Inv X pins σ H s) (hf : ∀ b∈fp,y0A X pins H b) (J : Inv (z0w X N' sc s H fp pins E) [] σ' H' s') : Inv X pins σ H' s':=
 I.call' J.os J.base J.hok J.bare fun b hb=>⟨(hf b hb).2.2.2.1,(hf b hb).2.1,(hf b hb).2.2.2.2.1,(hf b hb).2.2.2.2.2⟩
theorem z9H {H' : Hp} {s' : Shared} {h' : Heap} (I : Inv X pins σ H s) (J : Inv X pins σ H' s') (hn : H' s.heap.objs.size=none) (hb : Heap.SameBut s.heap.objs.size s'.heap h') : Inv X pins σ H' { s' with heap:=h' }:=by
 refine J.turned (t':=s'.toks) (it:=s.heap.objs.size) (fun b o hne e=>(hb.2 b hne).trans e) hn (bP I.lt) (.inr I.sz) (fun x c e=>?_) fun p hp=>?_
 ·obtain ⟨v,q⟩:=I.cell x c e
  exact aF q.lt
 ·exact aF (Heap.lt_size (I.pin p hp).1)
end
theorem y0w {prog : Program} {w : World} {A : Around} {R : Result->Shared->Prop} {s : Shared} {elt target iter : Expr} {ifs : List Expr} {scope : Scope} {pos : Pos} {it acc : Value} {env : Env} (I : Nat->Shared->Prop)
  (turn : ∀ n s,I n s->wpAny (model prog w) A (pyNext it) (fun r s₁=>match r with
   | none=>R (.ok .next) s₁
   | some v=>wpAny (model prog w) A (letOwnedTupleGo target it v) (fun _ s₁'=>wpAny (model prog w) A (assign target env v) (fun _ s₂=>
     wpAny (model prog w) A (forIn ifs true fun c r=>if r=true then do let ok ← isTrue c env (eval c env); pure (ForInStep.yield ok) else pure (ForInStep.yield r)) (fun ok s₃=>
      if ok=true then wpAny (model prog w) A (eval elt env) (fun x s₄=>
       wpAny (model prog w) A (call (.builtin "list.append") [acc,x]) (fun _ s₅=>∃ m,m < n∧I m s₅) (notedBy (model prog w) A env fun e s'=>R (.error e) s') s₄) (notedBy (model prog w) A env fun e s'=>R (.error e) s') s₃
      else ∃ m,m < n∧I m s₃) (notedBy (model prog w) A env fun e s'=>R (.error e) s') s₂) (notedBy (model prog w) A env fun e s'=>R (.error e) s') s₁') (notedBy (model prog w) A env fun e s'=>R (.error e) s') s₁) (notedBy (model prog w) A env fun e s'=>R (.error e) s') s)
  (n : Nat) (h : I n s) :
  codeAny (model prog w) A (.compLoop (.ListComp elt [⟨target,iter,ifs,0⟩] scope pos) 0 it acc env) R s:=by
 refine codeAny_loop rfl I (fun n s hI=>?_) n h
 show wpAny _ A ((compTurn (.ListComp elt [⟨target,iter,ifs,0⟩] scope pos) 0 it acc env).onRaise (fun x=>do noteFrame x env; theTreesLotGoes x)) _ _ s
 refine wpAny_noted ?_
 rw [compTurn_list]
 refine wpAny_bind (wpAny_standAt (wpAny_bind (wpAny_mono (turn n s hI) (fun r s₁ h₁=>?_) fun _ _ h'=>h')))
 cases r with
 | none=>exact wpAny_pure h₁
 | some v=>
  refine wpAny_bind (wpAny_mono h₁ (fun _ s₁' h₁'=>?_) fun _ _ h'=>h')
  refine wpAny_bind (wpAny_mono h₁' (fun _ s₂ h₂=>wpAny_bind (wpAny_mono h₂ (fun ok s₃ h₃=>?_) fun _ _ h'=>h')) fun _ _ h'=>h')
  cases ok with
  | false=>exact wpAny_pure ⟨rfl,h₃⟩
  | true=>
   exact wpAny_bind (wpAny_bind (wpAny_mono h₃ (fun x s₄ h₄=>wpAny_bind (wpAny_mono h₄ (fun _ s₅ h₅=>wpAny_pure (wpAny_pure ⟨rfl,h₅⟩)) fun _ _ h'=>h')) fun _ _ h'=>h'))
def y3Q (X : Cx) (ifs : List Expr) (t : TT) : Prop:=
 ∀ (pins : List (Addr × Obj)) (s : Shared) (σ : St) (H : Hp) (Q : Bool->Hp->Prop),Inv X pins σ H s->t σ H Q →
  wpAny (model X.prog X.w) X.A (forIn ifs true fun c r=>if r=true then do let ok ← isTrue c X.env (eval c X.env); pure (ForInStep.yield ok) else pure (ForInStep.yield r)) (TP X pins σ Q) X.xe s
def tYes : TT:=fun _ H Q=>Q true H
theorem y8A {X : Cx} : y3Q X [] tYes:=fun _ _ _ H _ I h=>wpAny_tests_nil ⟨H,I,h⟩
theorem y8K {X : Cx} {c : Expr} {t : TT} (h : PT X c t) : y3Q X [c] t:=fun pins s σ H Q I hw=>wpAny_tests_one (h pins s σ H Q I hw)
def y3H (wi : TI) (g : TG) (tc : TT) (te : TE) (k : Nat) : TE:=fun σ H Q=>wi σ H fun J H1=>∀ D,H1 D=none →
 ∃ W : Nat->Nat->St->Hp->Prop,(∃ m,W 0 m (σ ++ ae k none) (upd H1 D (.lst [])))∧∀ i m σ' H',W i m σ' H' →
  (J.stop i H'∧Q (.ref D) H')∨(J.go i H'∧∃ N : St->Hp->Prop,(∀ σ'' H'',N σ'' H''->∃ m',m' < m∧W (i + 1) m' σ'' H'') ∧
   ∀ x H2,J.yld i H' x H2->g x σ' H2 fun σ2 H3=>tc σ2 H3 fun b H4=>if b=true then te σ2 H4 fun y H5=>∃ ys,H5 D=some (.lst ys)∧ys.length < sizeLine∧N σ2 (upd H5 D (.lst (ys ++ [y]))) else N σ2 H4)
structure PComp (X : Cx) (N' : List Str) (sc : Scope) (tg : Expr) (ifs : List Expr) (elt : Expr) (g : TG) (tc : TT) (te : TE) : Prop where
 pg : ∀ s H fp pins E,PG (z0w X N' sc s H fp pins E) tg g
 pt : ∀ s H fp pins E,y3Q (z0w X N' sc s H fp pins E) ifs tc
 pe : ∀ s H fp pins E,PE (z0w X N' sc s H fp pins E) elt te
section
variable {X : Cx} {N' : List Str} {k : Nat} {sc : Scope} {tg iter elt : Expr} {ifs : List Expr} {pos : Pos} {g : TG} {tc : TT} {te : TE} {wi : TI}
theorem z5Y {pins : List (Addr × Obj)} {σ : St} {H : Hp} {s : Shared} {J : It} {fp : List Addr} {it : Addr} {tn : Nat->Heap->Prop} {Q : VK} {E : Value->Shared->Prop} {RR : Value->Addr->Result->Shared->Prop}
  (hc : X.calm=true) (S : CompScope X.N X.env.scope.names N' k sc) {PC : Shared->Hp->(Value->Shared->Prop)->Prop} (P : ∀ s H E,PC s H E->PG (z0w X N' sc s H fp pins E) tg g∧y3Q (z0w X N' sc s H fp pins E) ifs tc∧PE (z0w X N' sc s H fp pins E) elt te)
  (hP : ∀ D s3 H3,Inv X pins σ H3 s3->(∀ b∈fp,y0A X pins H3 b)->PC s3 H3 (notedBy (model X.prog X.w) X.A (compEnvC sc (cellsFrom (s3.heap.objs.size + 1) sc.names (z3b X.env.cells sc.names [])) s3.heap.objs.size X.env) fun e s'=>RR (.ref D) s3.heap.objs.size (.error e) s')) (I : Inv X pins σ H s) (T : Turn X.prog X.w X.K tg J fp it tn) (st : tn 0 s.heap) (hf : ∀ b∈fp,y0A X pins H b)
  (hW : ∀ D,H D=none->∃ W : Nat->Nat->St->Hp->Prop,(∃ m,W 0 m (σ ++ ae k none) (upd H D (.lst [])))∧∀ i m σ' H',W i m σ' H' →
   (J.stop i H'∧Q (.ref D) H')∨(J.go i H'∧∃ N : St->Hp->Prop,(∀ σ'' H'',N σ'' H''->∃ m',m' < m∧W (i + 1) m' σ'' H'') ∧
    ∀ x H2,J.yld i H' x H2->g x σ' H2 fun σ2 H3=>tc σ2 H3 fun b H4=>if b=true then te σ2 H4 fun y H5=>∃ ys,H5 D=some (.lst ys)∧ys.length < sizeLine∧N σ2 (upd H5 D (.lst (ys ++ [y]))) else N σ2 H4))
  (hR : ∀ D s3 H3 σ' H' s' E',Inv X pins σ H3 s3->(∀ b∈fp,y0A X pins H3 b)->Inv (z0w X N' sc s3 H3 fp pins E') [] σ' H' s'->Q (.ref D) H'->RR (.ref D) s3.heap.objs.size (.ok .next) s') :
  wpAny (model X.prog X.w) X.A (newList []) (fun acc s₃=>wpAny (model X.prog X.w) X.A (newFunctionEnv sc X.env.globals (z3b X.env.cells sc.names []) [] X.env.qual none .none (some X.env)) (fun cenv s₄=>
   codeAny (model X.prog X.w) X.A (.compStart (.ListComp elt [⟨tg,iter,ifs,0⟩] sc pos) 0 (.ref it) acc { cenv with scope:=relabel sc X.env }) (RR acc cenv.locals) s₄) E s₃) E s:=by
 obtain ⟨W,⟨m0,w0⟩,step⟩:=hW s.heap.objs.size (I.hok.fresh (ar _))
 have I3 : Inv X pins σ (upd H s.heap.objs.size (.lst [])) { s with heap:=s.heap.push { cls:=.type "list",data:=.seq ([] : List Value).toArray },toks:=s.toks }:=I.lnew (t':=s.toks) .nil (bu _)
 have lt0 : ∀ b∈fp,b < s.heap.objs.size:=fun b hb=>by
  obtain ⟨o,e,_⟩:=T.obj 0 _ st b hb
  exact Heap.lt_size e
 have hf3 : ∀ b∈fp,y0A X pins (upd H s.heap.objs.size (.lst [])) b:=fun b hb=>⟨by rw [z0A (aF (lt0 b hb))]; exact (hf b hb).1,(hf b hb).2⟩
 have lt3 : ∀ b∈fp,b < (s.heap.push { cls:=.type "list",data:=.seq ([] : List Value).toArray }).objs.size:=fun b hb=>by
  rw [Heap.size_push]
  exact cF (lt0 b hb)
 refine wpAny_newObj_type (z3j ?_)
 generalize hs3 : ({ s with heap:=s.heap.push { cls:=.type "list",data:=.seq ([] : List Value).toArray },toks:=s.toks } : Shared)=s3 at I3
 have hsh : s3.heap=s.heap.push { cls:=.type "list",data:=.seq ([] : List Value).toArray }:=by rw [← hs3]
 rw [← hsh] at lt3
 have st3 : tn 0 s3.heap:=T.keep _ _ _ st fun b _ o e=>by rw [hsh]; exact Heap.get?_push_of_some _ e
 show codeAny _ _ (.compStart _ 0 (.ref it) (.ref s.heap.objs.size) (compEnvC sc (cellsFrom (s3.heap.objs.size + 1) sc.names (z3b X.env.cells sc.names [])) s3.heap.objs.size X.env)) (RR (.ref s.heap.objs.size) s3.heap.objs.size)
  { s3 with heap:=pushCells (s3.heap.push { cls:=.type "dict",data:=.dict #[] }) sc.names }
 generalize hD : s.heap.objs.size=D at *
 generalize hEn : (notedBy (model X.prog X.w) X.A (compEnvC sc (cellsFrom (s3.heap.objs.size + 1) sc.names (z3b X.env.cells sc.names [])) s3.heap.objs.size X.env) fun e s'=>RR (.ref D) s3.heap.objs.size (.error e) s')=En
 have I4 : Inv (z0w X N' sc s3 (upd H D (.lst [])) fp pins En) [] (σ ++ ae k none) (upd H D (.lst [])) { s3 with heap:=pushCells (s3.heap.push { cls:=.type "dict",data:=.dict #[] }) sc.names }:=y9a S I3 hf3 lt3
 have st4 : tn 0 (pushCells (s3.heap.push { cls:=.type "dict",data:=.dict #[] }) sc.names):=T.keep _ _ _ st3 fun b _ o e=>pushCells_keeps _ _ _ _ (Heap.get?_push_of_some _ e)
 have stat : ∀ {H' : Hp},(∀ b∈fp,H' b=none)->∀ b∈fp,y0A (z0w X N' sc s3 (upd H D (.lst [])) fp pins En) [] H' b:=fun hn b hb=>
  ⟨hn b hb,(I4.ok.exf b hb).1,I4.ok.exfs b hb,.inl hb,(I4.ok.exf b hb).2,fun p hp=>(hf3 b hb).2.2.2.2.2 p (by
   rcases ay.mp hp with z | z
   ·exact z
   ·exact nomatch z)⟩
 obtain ⟨Pg,Pt,Pe⟩:=P s3 (upd H D (.lst [])) En (by rw [← hEn]; exact hP D s3 _ I3 hf3)
 have loop : codeAny (model X.prog X.w) X.A (.compLoop (.ListComp elt [⟨tg,iter,ifs,0⟩] sc pos) 0 (.ref it) (.ref D) (z0w X N' sc s3 (upd H D (.lst [])) fp pins En).env) (RR (.ref D) s3.heap.objs.size)
   { s3 with heap:=pushCells (s3.heap.push { cls:=.type "dict",data:=.dict #[] }) sc.names }:=by
  refine y0w (fun n s'=>∃ i σ' H',Inv (z0w X N' sc s3 (upd H D (.lst [])) fp pins En) [] σ' H' s'∧tn i s'.heap∧(∀ b∈fp,H' b=none)∧W i n σ' H') ?_ m0 ⟨0,_,_,I4,st4,fun b hb=>(hf3 b hb).1,w0⟩
  have eEn : (notedBy (model X.prog X.w) X.A (z0w X N' sc s3 (upd H D (.lst [])) fp pins En).env fun e s'=>RR (.ref D) s3.heap.objs.size (.error e) s')=En:=hEn
  rw [eEn]
  rintro n s5 ⟨i,σ5,H5,I5,st5,fr5,w5⟩
  rcases step i n σ5 H5 w5 with ⟨stop,qn⟩ | ⟨go,N,hN,turn⟩
  ·refine thn (T.done (z0w X N' sc s3 (upd H D (.lst [])) fp pins En) rfl rfl rfl hc i [] s5 σ5 H5 En I5 (stat fr5) st5 stop) fun r s6 ⟨hr,I6⟩=>?_
   subst hr
   exact hR D s3 _ σ5 H5 s6 En I3 hf3 I6 qn
  ·refine thn (T.item (z0w X N' sc s3 (upd H D (.lst [])) fp pins En) rfl rfl rfl hc i [] s5 σ5 H5 En I5 (stat fr5) st5 go) fun r s6 ⟨u,hr,h6⟩=>?_
   subst hr
   refine thn h6 fun _ s7 ⟨x,H7,I7,r7,y7,st7,fr7⟩=>?_
   have I7':=I7.pinned (stat fr7) (T.obj _ _ st7)
   have back : ∀ {σ9 : St} {H9 : Hp} {s9 : Shared},Inv (z0w X N' sc s3 (upd H D (.lst [])) fp pins En) ([] ++ z9s fp s7.heap) σ9 H9 s9->N σ9 H9 →
     ∃ m,m < n∧∃ i σ' H',Inv (z0w X N' sc s3 (upd H D (.lst [])) fp pins En) [] σ' H' s9∧tn i s9.heap∧(∀ b∈fp,H' b=none)∧W i m σ' H':=fun {σ9 H9 s9} I9 n9=>by
    obtain ⟨m',hm,w9⟩:=hN σ9 H9 n9
    refine ⟨m',hm,i + 1,σ9,H9,I9.unpinned,T.keep _ _ _ st7 fun b hb o e=>(I9.pin (b,o) (aO _ (aO _ (z4x hb e)))).1,fun b hb=>?_,w9⟩
    obtain ⟨o,e,d⟩:=T.obj _ _ st7 b hb
    exact (I9.pin (b,o) (aO _ (aO _ (z4x hb e)))).2.1
   refine thn (Pg _ s7 σ5 H7 x u _ I7' r7 (turn x H7 y7)) fun _ s8 ⟨σ8,H8,I8,q8⟩=>?_
   refine thn (Pt _ s8 σ8 H8 _ I8 q8) fun ok s9 ⟨H9,I9,q9⟩=>?_
   cases ok with
   | false=>
    rw [if_neg ax] at q9
    rw [if_neg ax]
    exact back I9 q9
   | true=>
    rw [if_pos rfl] at q9
    rw [if_pos rfl]
    refine thn (Pe _ s9 σ8 H9 _ I9 q9) fun y s10 ⟨yv,H10,I10,r10,ys,hys,hl,q10⟩=>?_
    refine thn (z5o _ s10 σ8 H10 (.ref D) [yv] (.ref D) [y] (fun _ H'=>N σ8 H') I10 rfl (.cons r10 .nil) ⟨D,ys,yv,rfl,rfl,hys,hl,q10⟩) fun _ s11 ⟨_,H11,I11,_,q11⟩=>?_
    exact back I11 q11
 exact codeAny_compStart_list loop (T.self X.A 0 _ _ _ st4 loop)
theorem CompScope.names' {N : List Str} {out : List (Str × NameKind)} (S : CompScope N out N' k sc) : ∀ x∈sc.names,x.2 = .local->sc.names.lookup x.1=some .local:=fun x hx e=>by
 obtain ⟨n,kd⟩:=x
 have e' : kd = .local:=e
 subst e'
 exact S.look hx
theorem y1d (hc : X.calm=true) (S : CompScope X.N X.env.scope.names N' k sc) (hi : PI X tg iter wi) (P : PComp X N' sc tg ifs elt g tc te) (hs : ∀ x,foldedSetIterable iter X.env x=pure x:=by intro _; rfl) :
  PE X (.ListComp elt [⟨tg,iter,ifs,0⟩] sc pos) (y3H wi g tc te k):=by
 intro pins s σ H Q I h
 rw [eval_ListComp]
 refine wpAny_comprehension_free (use:=none) rfl hs (z1F fun n hn=>I.ok.has n (S.fr hn)) S.kind S.names' (thn (hi pins s σ H _ I h) fun v s1 h1=>thn h1 fun itv s2 h2=>?_)
 obtain ⟨it,fp,tn,J,H2,e,I2,T,st2,f2,hW⟩:=h2
 subst e
 refine z5Y (Q:=Q) (RR:=fun acc C=>compPost (model X.prog X.w) X.A X.xe none (EP X pins σ Q) acc C) (PC:=fun _ _ _=>True) hc S (fun s H E _=>⟨P.pg s H _ _ E,P.pt s H _ _ E,P.pe s H _ _ E⟩) (fun _ _ _ _ _=>trivial) I2 T st2 f2 hW ?_
 intro D s3 H3 σ' H' s' E' I3 f3 J' q
 obtain ⟨m,hn,_⟩:=J'.loc
 exact ⟨m,hn,fun h' hb=>⟨.ref D,H',z9H I3 (z5D I3 f3 J') J'.free hb,rfl,q⟩⟩
theorem y6T {i : Nat} {y : Str} {py spos : Pos} (hc : X.calm=true) (S : CompScope X.N X.env.scope.names N' k sc) (hN : X.N.Nodup) (hy : X.N[i]? = some y) (hyl : X.env.scope.names.lookup y=some .local) (hi : PI X tg iter wi) (P : PComp X N' sc tg ifs elt g tc te)
  (hsw : swapsWith (.ListComp elt [⟨tg,iter,ifs,0⟩] sc pos) (some (.Name y py)) spos.line X.env=pure true:=by rfl) (hs : ∀ x,foldedSetIterable iter X.env x=pure x:=by intro _; rfl) :
  PS X (.Assign [.Name y py] (.ListComp elt [⟨tg,iter,ifs,0⟩] sc pos) spos) (tAsg (y3H wi g tc te k) (z2Z i)):=by
 intro pins s σ H D I h
 rw [exec_Assign_Name_used _ _ _ _ hsw]
 refine wpAny_bind (wpAny_standAt (wpAny_bind ?_))
 show wpAny _ X.A (do let _ ← comprehension (.ListComp elt [⟨tg,iter,ifs,0⟩] sc pos) sc X.env _ (newList []) false (eval iter X.env) (some (assign (.Name y py) X.env))) _ _ s
 refine wpAny_bind (wpAny_mono (wpAny_comprehension_free (use:=some (assign (.Name y py) X.env)) (Q:=fun _ s'=>SP X pins D .next s') rfl hs (z1F fun n hn=>I.ok.has n (S.fr hn)) S.kind S.names'
  (thn (hi pins s σ H _ I h) fun v s1 h1=>thn h1 fun itv s2 h2=>?_)) (fun _ s' hq=>wpAny_pure (wpAny_pure hq)) fun _ _ e=>e)
 obtain ⟨it,fp,tn,J,H2,e,I2,T,st2,f2,hW⟩:=h2
 subst e
 refine z5Y (Q:=fun v H'=>D.nx (σ.set i (some v)) H') (RR:=fun acc C=>compPost (model X.prog X.w) X.A X.xe (some (assign (.Name y py) X.env)) (fun _ s'=>SP X pins D .next s') acc C) (PC:=fun _ _ _=>True) hc S (fun s H E _=>⟨P.pg s H _ _ E,P.pt s H _ _ E,P.pe s H _ _ E⟩) (fun _ _ _ _ _=>trivial) I2 T st2 f2 hW ?_
 intro a s3 H3 σ' H' s' E' I3 f3 J' q
 have J2:=z5D I3 f3 J'
 obtain ⟨m,hn,_⟩:=J'.loc
 show wpAny _ X.A (assign (.Name y py) X.env (.ref a)) _ _ _
 refine wpAny_assign_Name (z7k J2 hN hy (.inl hyl) (v:=.ref a) rfl (fun s4 I4 hsb=>?_) (.inr hyl))
 obtain ⟨b,hb,hb'⟩:=hsb
 have hne : b≠s3.heap.objs.size:=by
  rcases hb' with z | z
  ·rw [z]; exact aF I3.lt
  ·obtain ⟨v,w'⟩:=I3.cell y b z
   exact aF w'.lt
 refine ⟨m,hn.sameBut hb (Ne.symm hne),fun h' hb2=>⟨_,H',?_,q⟩⟩
 have I3' : Inv X pins (σ.set i (some (.ref a))) H3 s3∨True:=.inr trivial
 refine I4.turned (t':=s4.toks) (it:=s3.heap.objs.size) (fun b o hne e=>(hb2.2 b hne).trans e) J'.free (bP I3.lt) (.inr I3.sz) (fun x c e=>?_) fun p hp=>?_
 ·obtain ⟨v,q⟩:=I3.cell x c e
  exact aF q.lt
 ·exact aF (Heap.lt_size (I3.pin p hp).1)
end
end L2
namespace L2
open PySem PySem.Spec PyProof.Rows
inductive D where
 | non | bl (b : Bool) | int (i : Int) | str (x : Str) | lst (xs : List D) | tup (xs : List D) | scr (ns : List Int) | dct (ks : List Key) (xs : List D) | exc (x : Str) | obj (x : Str) (a : Addr) (ks : List Str) (ds : List D) | cel (a : Addr) (ds : List D)
def z5e (K : aa) (C : Addr) : Bool:=aS K (.ref C) "__getattribute__" == some (some (.builtin "BaseException.__getattribute__")) && aS K (.ref C) "__getattr__" == some none && bB K C (.type "BaseException") == some true && (dJ K C).isSome && aS K (.ref C) "__class__" == some (some (.builtin "object.__class__")) &&
 bJ K (.builtin "object.__class__") "__get__" == some (some (.builtin "getset_descriptor.__get__")) && ce K (.builtin "object.__class__") == some true && bB K C (.type "object") == some true &&
 ["bool", "int", "str", "list", "tuple", "dict"].all fun T=>bc K (.ref C) (.type T) == some false
def y3w (K : aa) (C : Addr) (ks : List Str) : Bool:=c4 K C Str.empty && eF K C && eE K C && aS K (.ref C) "__setattr__" == some (some (.builtin "object.__setattr__")) &&
 aS K (.ref C) "__class__" == some (some (.builtin "object.__class__")) && bJ K (.builtin "object.__class__") "__get__" == some (some (.builtin "getset_descriptor.__get__")) && ce K (.builtin "object.__class__") == some true && bB K C (.type "object") == some true &&
 (["bool", "int", "str", "list", "tuple", "dict"].all fun T=>bc K (.ref C) (.type T) == some false) && ks.all fun f=>aS K (.ref C) f == some none
def isX (a C : Addr) (h : Heap) : Prop:=∃ o,h.get? a=some o∧o.cls = .ref C∧o.dict=none∧PySem.W.notCls o=true
def SqF (K : aa) (H : Hp) (a : Addr) (xs : List V) : Prop:=
 (∃ o,H a=some (.frz o (.lst xs)))∨∃ (o : Obj) (its : Array Value) (n : Nat),K.lookup a=some o∧o.cls = .type "list" ∧ o.dict=none∧o.data = .seq its n∧its.size≤sizeLine∧Vals xs its.toList
theorem SqF.sq {K : aa} {H : Hp} {a : Addr} {xs : List V} (h : SqF K H a xs) : SqL K H a xs:=h.elim (fun z=>.inl (.inr z)) .inr
mutual
def Rep (K : aa) (H : Hp) (B : Addr->Prop) : D->V->Prop
 | .non,v=>v = .non
 | .bl b,v=>v = .bl b
 | .int i,v=>v = .int i
 | .str x,v=>v = .str x
 | .lst ds,v=>∃ a xs,v = .ref a∧¬ B a∧H a=some (.lst xs)∧Reps K H B ds xs
 | .tup ds,v=>∃ a xs,v = .ref a∧SqT K H a xs∧Reps K H B ds xs
 | .scr ns,v=>∃ a,v = .ref a∧SqF K H a (ns.map V.int)
 | .dct ks ds,v=>∃ a kvs,v = .ref a∧¬ B a∧H a=some (.dK kvs)∧kvs.map (·.1)=ks∧Reps K H B ds (kvs.map (·.2))
 | .exc x,v=>∃ a C,v = .ref a∧¬ B a∧H a=some (.ext (isX a C))∧ag K mainGlobals x=some (some (.ref C))∧z5e K C=true
 | .obj x a ks ds,v=>∃ C dx fs,¬ B a∧H a=some (.ins C dx fs)∧(v = .ref a∧ag K mainGlobals x=some (some (.ref C))∧y3w K C ks=true∧fs.map (·.1)=ks)∧Reps K H B ds (fs.map (·.2))
 | .cel a ds,v=>∃ xs,¬ B a∧H a=some (.lst xs)∧v = .ref a∧Reps K H B ds xs
def Reps (K : aa) (H : Hp) (B : Addr->Prop) : List D->List V->Prop
 | [],xs=>xs=[]
 | d :: ds,xs=>∃ x r,xs=x :: r∧Rep K H B d x∧Reps K H B ds r
end
mutual
def Tree (K : aa) (H : Hp) : D->V->List Addr->Prop
 | .non,v,A=>v = .non∧A=[]
 | .bl b,v,A=>v = .bl b∧A=[]
 | .int i,v,A=>v = .int i∧A=[]
 | .str x,v,A=>v = .str x∧A=[]
 | .lst ds,v,A=>∃ a xs B,v = .ref a∧H a=some (.lst xs)∧Trees K H ds xs B∧A=a :: B
 | .tup ds,v,A=>∃ a xs,v = .ref a∧SqT K H a xs∧Trees K H ds xs A
 | .scr ns,v,A=>(∃ a,v = .ref a∧SqF K H a (ns.map V.int))∧A=[]
 | .dct ks ds,v,A=>∃ a kvs B,v = .ref a∧H a=some (.dK kvs)∧kvs.map (·.1)=ks∧Trees K H ds (kvs.map (·.2)) B∧A=a :: B
 | .exc x,v,A=>∃ a C,v = .ref a∧H a=some (.ext (isX a C))∧ag K mainGlobals x=some (some (.ref C))∧z5e K C=true∧A=[a]
 | .obj x a ks ds,v,A=>∃ C dx fs A1,H a=some (.ins C dx fs)∧(v = .ref a∧ag K mainGlobals x=some (some (.ref C))∧y3w K C ks=true∧fs.map (·.1)=ks)∧Trees K H ds (fs.map (·.2)) A1∧A=a :: A1
 | .cel a ds,v,A=>∃ xs B,H a=some (.lst xs)∧v = .ref a∧Trees K H ds xs B∧A=a :: B
def Trees (K : aa) (H : Hp) : List D->List V->List Addr->Prop
 | [],xs,A=>xs=[]∧A=[]
 | d :: ds,xs,A=>∃ x r B C,xs=x :: r∧Tree K H d x B∧Trees K H ds r C∧A=B ++ C
end
mutual
def D.imm : D->Bool
 | .non=>true
 | .bl _=>true
 | .int _=>true
 | .str _=>true
 | .lst _=>false
 | .tup ds=>z2z ds
 | .scr _=>true
 | .dct _ _=>false
 | .exc _=>false
 | .obj _ _ _ _=>false
 | .cel _ _=>false
def z2z : List D->Bool
 | []=>true
 | d :: ds=>d.imm && z2z ds
end
theorem Same.tup {K : aa} {H H' : Hp} {a : Addr} {xs : List V} (e : Same H H') (h : SqT K H a xs) : SqT K H' a xs:=by
 rcases h with (h | ⟨o,h⟩) | h
 ·exact .inl (.inl (e _ _ h))
 ·exact .inl (.inr ⟨o,e _ _ h⟩)
 ·exact .inr h
section
variable {K : aa} {H H' : Hp} {B B' : Addr->Prop}
structure KeepI (K : aa) (H H' : Hp) : Prop where
 st : ∀ a xs,SqT K H a xs->SqT K H' a xs
 sf : ∀ a xs,SqF K H a xs->SqF K H' a xs
structure Keep (K : aa) (B : Addr->Prop) (H H' : Hp) : Prop where
 sl : ∀ a xs,¬ B a->H a=some (.lst xs)->H' a=some (.lst xs)
 st : ∀ a xs,SqT K H a xs->SqT K H' a xs
 sf : ∀ a xs,SqF K H a xs->SqF K H' a xs
 sd : ∀ a kvs,¬ B a->H a=some (.dK kvs)->H' a=some (.dK kvs)
 sx : ∀ a φ,¬ B a->H a=some (.ext φ)->H' a=some (.ext φ)
 si : ∀ a C dx fs,¬ B a->H a=some (.ins C dx fs)->H' a=some (.ins C dx fs)
theorem Keep.i (k : Keep K B H H') : KeepI K H H':=⟨k.st,k.sf⟩
mutual
theorem Rep.keep (k : Keep K B H H') : ∀ (d : D) {v : V},Rep K H B d v->Rep K H' B d v
 | .non,_,h=>h
 | .bl _,_,h=>h
 | .int _,_,h=>h
 | .str _,_,h=>h
 | .lst ds,_,h=>by
  unfold Rep at h ⊢
  obtain ⟨a,xs,e,n,s,r⟩:=h
  exact ⟨a,xs,e,n,k.sl a xs n s,Reps.keep k ds r⟩
 | .tup ds,_,h=>by
  unfold Rep at h ⊢
  obtain ⟨a,xs,e,s,r⟩:=h
  exact ⟨a,xs,e,k.st a xs s,Reps.keep k ds r⟩
 | .scr ns,_,h=>by
  unfold Rep at h ⊢
  obtain ⟨a,e,s⟩:=h
  exact ⟨a,e,k.sf a _ s⟩
 | .dct ks ds,_,h=>by
  unfold Rep at h ⊢
  obtain ⟨a,kvs,e,n,s,q,r⟩:=h
  exact ⟨a,kvs,e,n,k.sd a kvs n s,q,Reps.keep k ds r⟩
 | .exc _,_,h=>by
  unfold Rep at h ⊢
  obtain ⟨a,C,e,n,s,r⟩:=h
  exact ⟨a,C,e,n,k.sx a _ n s,r⟩
 | .obj x a ks ds,_,h=>by
  unfold Rep at h ⊢
  obtain ⟨C,dx,fs,n,s,q,r1⟩:=h
  exact ⟨C,dx,fs,n,k.si a C dx fs n s,q,Reps.keep k ds r1⟩
 | .cel a ds,_,h=>by
  unfold Rep at h ⊢
  obtain ⟨xs,n,s,e,r⟩:=h
  exact ⟨xs,n,k.sl a xs n s,e,Reps.keep k ds r⟩
theorem Reps.keep (k : Keep K B H H') : ∀ (ds : List D) {xs : List V},Reps K H B ds xs->Reps K H' B ds xs
 | [],_,h=>h
 | d :: ds,_,h=>by
  unfold Reps at h ⊢
  obtain ⟨x,r,e,h1,h2⟩:=h
  exact ⟨x,r,e,Rep.keep k d h1,Reps.keep k ds h2⟩
end
mutual
theorem Rep.anti (hb : ∀ a,B' a->B a) : ∀ (d : D) {v : V},Rep K H B d v->Rep K H B' d v
 | .non,_,h=>h
 | .bl _,_,h=>h
 | .int _,_,h=>h
 | .str _,_,h=>h
 | .lst ds,_,h=>by
  unfold Rep at h ⊢
  obtain ⟨a,xs,e,n,s,r⟩:=h
  exact ⟨a,xs,e,fun z=>n (hb a z),s,Reps.anti hb ds r⟩
 | .tup ds,_,h=>by
  unfold Rep at h ⊢
  obtain ⟨a,xs,e,s,r⟩:=h
  exact ⟨a,xs,e,s,Reps.anti hb ds r⟩
 | .scr _,_,h=>h
 | .dct ks ds,_,h=>by
  unfold Rep at h ⊢
  obtain ⟨a,kvs,e,n,s,q,r⟩:=h
  exact ⟨a,kvs,e,fun z=>n (hb a z),s,q,Reps.anti hb ds r⟩
 | .exc _,_,h=>by
  unfold Rep at h ⊢
  obtain ⟨a,C,e,n,r⟩:=h
  exact ⟨a,C,e,fun z=>n (hb a z),r⟩
 | .obj x a ks ds,_,h=>by
  unfold Rep at h ⊢
  obtain ⟨C,dx,fs,n,s,q,r1⟩:=h
  exact ⟨C,dx,fs,fun z=>n (hb a z),s,q,Reps.anti hb ds r1⟩
 | .cel a ds,_,h=>by
  unfold Rep at h ⊢
  obtain ⟨xs,n,s,e,r⟩:=h
  exact ⟨xs,fun z=>n (hb a z),s,e,Reps.anti hb ds r⟩
theorem Reps.anti (hb : ∀ a,B' a->B a) : ∀ (ds : List D) {xs : List V},Reps K H B ds xs->Reps K H B' ds xs
 | [],_,h=>h
 | d :: ds,_,h=>by
  unfold Reps at h ⊢
  obtain ⟨x,r,e,h1,h2⟩:=h
  exact ⟨x,r,e,Rep.anti hb d h1,Reps.anti hb ds h2⟩
end
mutual
theorem Rep.imm : ∀ (d : D) {v : V},d.imm=true->Rep K H B d v->Rep K H B' d v
 | .non,_,_,h=>h
 | .bl _,_,_,h=>h
 | .int _,_,_,h=>h
 | .str _,_,_,h=>h
 | .lst _,_,i,_=>by unfold D.imm at i; cases i
 | .dct _ _,_,i,_=>by unfold D.imm at i; cases i
 | .exc _,_,i,_=>by unfold D.imm at i; cases i
 | .obj _ _ _ _,_,i,_=>by unfold D.imm at i; cases i
 | .cel _ _,_,i,_=>by unfold D.imm at i; cases i
 | .tup ds,_,i,h=>by
  unfold D.imm at i
  unfold Rep at h ⊢
  obtain ⟨a,xs,e,s,r⟩:=h
  exact ⟨a,xs,e,s,Reps.imm ds i r⟩
 | .scr _,_,_,h=>h
theorem Reps.imm : ∀ (ds : List D) {xs : List V},z2z ds=true->Reps K H B ds xs->Reps K H B' ds xs
 | [],_,_,h=>h
 | d :: ds,_,i,h=>by
  unfold z2z at i
  rw [aK] at i
  unfold Reps at h ⊢
  obtain ⟨x,r,e,h1,h2⟩:=h
  exact ⟨x,r,e,Rep.imm d i.1 h1,Reps.imm ds i.2 h2⟩
end
mutual
theorem Rep.immTree : ∀ (d : D) {v : V},d.imm=true->Rep K H B d v->Tree K H d v []
 | .non,_,_,h=>⟨h,rfl⟩
 | .bl _,_,_,h=>⟨h,rfl⟩
 | .int _,_,_,h=>⟨h,rfl⟩
 | .str _,_,_,h=>⟨h,rfl⟩
 | .lst _,_,i,_=>by unfold D.imm at i; cases i
 | .dct _ _,_,i,_=>by unfold D.imm at i; cases i
 | .exc _,_,i,_=>by unfold D.imm at i; cases i
 | .obj _ _ _ _,_,i,_=>by unfold D.imm at i; cases i
 | .cel _ _,_,i,_=>by unfold D.imm at i; cases i
 | .tup ds,_,i,h=>by
  unfold D.imm at i
  unfold Rep at h
  unfold Tree
  obtain ⟨a,xs,e,s,r⟩:=h
  exact ⟨a,xs,e,s,Reps.immTree ds i r⟩
 | .scr _,_,_,h=>⟨h,rfl⟩
theorem Reps.immTree : ∀ (ds : List D) {xs : List V},z2z ds=true->Reps K H B ds xs->Trees K H ds xs []
 | [],_,_,h=>⟨h,rfl⟩
 | d :: ds,_,i,h=>by
  unfold z2z at i
  rw [aK] at i
  unfold Reps at h
  unfold Trees
  obtain ⟨x,r,e,h1,h2⟩:=h
  exact ⟨x,r,[],[],e,Rep.immTree d i.1 h1,Reps.immTree ds i.2 h2,rfl⟩
end
mutual
theorem Tree.rep : ∀ (d : D) {v : V} {A : List Addr},Tree K H d v A->(∀ a∈A,¬ B a)->Rep K H B d v
 | .non,_,_,h,_=>h.1
 | .bl _,_,_,h,_=>h.1
 | .int _,_,_,h,_=>h.1
 | .str _,_,_,h,_=>h.1
 | .lst ds,_,_,h,n=>by
  unfold Tree at h
  unfold Rep
  obtain ⟨a,xs,C,e,s,r,rfl⟩:=h
  exact ⟨a,xs,e,n a ac,s,Trees.rep ds r fun b hb=>n b (af _ hb)⟩
 | .tup ds,_,_,h,n=>by
  unfold Tree at h
  unfold Rep
  obtain ⟨a,xs,e,s,r⟩:=h
  exact ⟨a,xs,e,s,Trees.rep ds r n⟩
 | .scr _,_,_,h,_=>h.1
 | .dct ks ds,_,_,h,n=>by
  unfold Tree at h
  unfold Rep
  obtain ⟨a,kvs,C,e,s,q,r,rfl⟩:=h
  exact ⟨a,kvs,e,n a ac,s,q,Trees.rep ds r fun b hb=>n b (af _ hb)⟩
 | .exc _,_,_,h,n=>by
  unfold Tree at h
  unfold Rep
  obtain ⟨a,C,e,s,r1,r2,rfl⟩:=h
  exact ⟨a,C,e,n a ac,s,r1,r2⟩
 | .obj x a ks ds,_,_,h,n=>by
  unfold Tree at h
  unfold Rep
  obtain ⟨C,dx,fs,A1,s,q,r1,rfl⟩:=h
  exact ⟨C,dx,fs,n a ac,s,q,Trees.rep ds r1 fun b hb=>n b (af _ hb)⟩
 | .cel a ds,_,_,h,n=>by
  unfold Tree at h
  unfold Rep
  obtain ⟨xs,C,s,e,r,rfl⟩:=h
  exact ⟨xs,n a ac,s,e,Trees.rep ds r fun b hb=>n b (af _ hb)⟩
theorem Trees.rep : ∀ (ds : List D) {xs : List V} {A : List Addr},Trees K H ds xs A->(∀ a∈A,¬ B a)->Reps K H B ds xs
 | [],_,_,h,_=>h.1
 | d :: ds,_,_,h,n=>by
  unfold Trees at h
  unfold Reps
  obtain ⟨x,r,C,C',e,h1,h2,rfl⟩:=h
  exact ⟨x,r,e,Tree.rep d h1 fun b hb=>n b (br _ hb),Trees.rep ds h2 fun b hb=>n b (aO _ hb)⟩
end
mutual
theorem Tree.keep (kt : KeepI K H H') : ∀ (d : D) {v : V} {A : List Addr},Tree K H d v A->(∀ a∈A,∀ o,H a=some o->H' a=some o)->Tree K H' d v A
 | .non,_,_,h,_=>h
 | .bl _,_,_,h,_=>h
 | .int _,_,_,h,_=>h
 | .str _,_,_,h,_=>h
 | .lst ds,_,_,h,n=>by
  unfold Tree at h ⊢
  obtain ⟨a,xs,C,e,s,r,rfl⟩:=h
  exact ⟨a,xs,C,e,n a ac _ s,Trees.keep kt ds r fun b hb=>n b (af _ hb),rfl⟩
 | .tup ds,_,_,h,n=>by
  unfold Tree at h ⊢
  obtain ⟨a,xs,e,s,r⟩:=h
  exact ⟨a,xs,e,kt.st a xs s,Trees.keep kt ds r n⟩
 | .scr _,_,_,h,_=>by
  unfold Tree at h ⊢
  obtain ⟨⟨a,e,s⟩,q⟩:=h
  exact ⟨⟨a,e,kt.sf a _ s⟩,q⟩
 | .dct ks ds,_,_,h,n=>by
  unfold Tree at h ⊢
  obtain ⟨a,kvs,C,e,s,q,r,rfl⟩:=h
  exact ⟨a,kvs,C,e,n a ac _ s,q,Trees.keep kt ds r fun b hb=>n b (af _ hb),rfl⟩
 | .exc _,_,_,h,n=>by
  unfold Tree at h ⊢
  obtain ⟨a,C,e,s,r1,r2,rfl⟩:=h
  exact ⟨a,C,e,n a ac _ s,r1,r2,rfl⟩
 | .obj x a ks ds,_,_,h,n=>by
  unfold Tree at h ⊢
  obtain ⟨C,dx,fs,A1,s,q,r1,rfl⟩:=h
  exact ⟨C,dx,fs,A1,n a ac _ s,q,Trees.keep kt ds r1 fun b hb=>n b (af _ hb),rfl⟩
 | .cel a ds,_,_,h,n=>by
  unfold Tree at h ⊢
  obtain ⟨xs,C,s,e,r,rfl⟩:=h
  exact ⟨xs,C,n a ac _ s,e,Trees.keep kt ds r fun b hb=>n b (af _ hb),rfl⟩
theorem Trees.keep (kt : KeepI K H H') : ∀ (ds : List D) {xs : List V} {A : List Addr},Trees K H ds xs A->(∀ a∈A,∀ o,H a=some o->H' a=some o)->Trees K H' ds xs A
 | [],_,_,h,_=>h
 | d :: ds,_,_,h,n=>by
  unfold Trees at h ⊢
  obtain ⟨x,r,C,C',e,h1,h2,rfl⟩:=h
  exact ⟨x,r,C,C',e,Tree.keep kt d h1 fun b hb=>n b (br _ hb),Trees.keep kt ds h2 fun b hb=>n b (aO _ hb),rfl⟩
end
mutual
theorem Tree.held : ∀ (d : D) {v : V} {A : List Addr},Tree K H d v A->∀ a∈A,∃ o,H a=some o∧Mut (some o)
 | .non,_,_,h,a,ha=>by rw [h.2] at ha; cases ha
 | .bl _,_,_,h,a,ha=>by rw [h.2] at ha; cases ha
 | .int _,_,_,h,a,ha=>by rw [h.2] at ha; cases ha
 | .str _,_,_,h,a,ha=>by rw [h.2] at ha; cases ha
 | .lst ds,_,_,h,b,hb=>by
  unfold Tree at h
  obtain ⟨a,xs,C,e,s,r,rfl⟩:=h
  rcases aj.mp hb with z | z
  ·subst z; exact ⟨_,s,trivial⟩
  ·exact Trees.held ds r b z
 | .tup ds,_,_,h,b,hb=>by
  unfold Tree at h
  obtain ⟨a,xs,e,s,r⟩:=h
  exact Trees.held ds r b hb
 | .scr _,_,_,h,a,ha=>by rw [h.2] at ha; cases ha
 | .dct ks ds,_,_,h,b,hb=>by
  unfold Tree at h
  obtain ⟨a,kvs,C,e,s,q,r,rfl⟩:=h
  rcases aj.mp hb with z | z
  ·subst z; exact ⟨_,s,trivial⟩
  ·exact Trees.held ds r b z
 | .exc _,_,_,h,b,hb=>by
  unfold Tree at h
  obtain ⟨a,C,e,s,r1,r2,rfl⟩:=h
  rw [ai.mp hb]
  exact ⟨_,s,trivial⟩
 | .obj x a ks ds,_,_,h,b,hb=>by
  unfold Tree at h
  obtain ⟨C,dx,fs,A1,s,q,r1,rfl⟩:=h
  rcases aj.mp hb with z | z
  ·subst z; exact ⟨_,s,trivial⟩
  ·exact Trees.held ds r1 b z
 | .cel a ds,_,_,h,b,hb=>by
  unfold Tree at h
  obtain ⟨xs,C,s,e,r,rfl⟩:=h
  rcases aj.mp hb with z | z
  ·subst z; exact ⟨_,s,trivial⟩
  ·exact Trees.held ds r b z
theorem Trees.held : ∀ (ds : List D) {xs : List V} {A : List Addr},Trees K H ds xs A->∀ a∈A,∃ o,H a=some o∧Mut (some o)
 | [],_,_,h,a,ha=>by rw [h.2] at ha; cases ha
 | d :: ds,_,_,h,b,hb=>by
  unfold Trees at h
  obtain ⟨x,r,C,C',e,h1,h2,rfl⟩:=h
  rcases ay.mp hb with z | z
  ·exact Tree.held d h1 b z
  ·exact Trees.held ds h2 b z
end
theorem Same.sf (e : Same H H') {a : Addr} {xs : List V} (h : SqF K H a xs) : SqF K H' a xs:=h.elim (fun ⟨o,z⟩=>.inl ⟨o,e _ _ z⟩) .inr
theorem Keep.same (e : Same H H') : Keep K B H H':=⟨fun _ _ _ h=>e _ _ h,fun _ _ h=>e.tup h,fun _ _ h=>e.sf h,fun _ _ _ h=>e _ _ h,fun _ _ _ h=>e _ _ h,fun _ _ _ _ _ h=>e _ _ h⟩
theorem KeepI.same (e : Same H H') : KeepI K H H':=⟨fun _ _ h=>e.tup h,fun _ _ h=>e.sf h⟩
theorem Rep.mono {d : D} {v : V} (h : Rep K H B d v) (e : Same H H') : Rep K H' B d v:=Rep.keep (.same e) d h
theorem Reps.mono {ds : List D} {xs : List V} (h : Reps K H B ds xs) (e : Same H H') : Reps K H' B ds xs:=Reps.keep (.same e) ds h
theorem Tree.mono {d : D} {v : V} {A : List Addr} (h : Tree K H d v A) (e : Same H H') : Tree K H' d v A:=Tree.keep (.same e) d h fun a _ o z=>e a o z
theorem Trees.mono {ds : List D} {v : List V} {A : List Addr} (h : Trees K H ds v A) (e : Same H H') : Trees K H' ds v A:=Trees.keep (.same e) ds h fun a _ o z=>e a o z
mutual
theorem Rep.wide {C : Addr->Prop} (hc : ∀ a,C a->H a=none) : ∀ (d : D) {v : V},Rep K H B d v->Rep K H (fun a=>B a∨C a) d v
 | .non,_,h=>h
 | .bl _,_,h=>h
 | .int _,_,h=>h
 | .str _,_,h=>h
 | .lst ds,_,h=>by
  unfold Rep at h ⊢
  obtain ⟨a,xs,e,n,s,r⟩:=h
  refine ⟨a,xs,e,fun z=>z.elim n fun z=>?_,s,Reps.wide hc ds r⟩
  rw [hc a z] at s; cases s
 | .tup ds,_,h=>by
  unfold Rep at h ⊢
  obtain ⟨a,xs,e,s,r⟩:=h
  exact ⟨a,xs,e,s,Reps.wide hc ds r⟩
 | .scr _,_,h=>h
 | .dct ks ds,_,h=>by
  unfold Rep at h ⊢
  obtain ⟨a,kvs,e,n,s,q,r⟩:=h
  refine ⟨a,kvs,e,fun z=>z.elim n fun z=>?_,s,q,Reps.wide hc ds r⟩
  rw [hc a z] at s; cases s
 | .exc _,_,h=>by
  unfold Rep at h ⊢
  obtain ⟨a,C,e,n,s,r⟩:=h
  refine ⟨a,C,e,fun z=>z.elim n fun z=>?_,s,r⟩
  rw [hc a z] at s; cases s
 | .obj x a ks ds,_,h=>by
  unfold Rep at h ⊢
  obtain ⟨C',dx,fs,n,s,q,r1⟩:=h
  refine ⟨C',dx,fs,fun z=>z.elim n fun z=>?_,s,q,Reps.wide hc ds r1⟩
  rw [hc a z] at s; cases s
 | .cel a ds,_,h=>by
  unfold Rep at h ⊢
  obtain ⟨xs,n,s,e,r⟩:=h
  refine ⟨xs,fun z=>z.elim n fun z=>?_,s,e,Reps.wide hc ds r⟩
  rw [hc a z] at s; cases s
theorem Reps.wide {C : Addr->Prop} (hc : ∀ a,C a->H a=none) : ∀ (ds : List D) {xs : List V},Reps K H B ds xs->Reps K H (fun a=>B a∨C a) ds xs
 | [],_,h=>h
 | d :: ds,_,h=>by
  unfold Reps at h ⊢
  obtain ⟨x,r,e,h1,h2⟩:=h
  exact ⟨x,r,e,Rep.wide hc d h1,Reps.wide hc ds h2⟩
end
theorem Keep.upd {a : Addr} {o : HO} (hb : B a) (mu : Mut (H a)) : Keep K B H (upd H a o):=by
 refine ⟨fun b xs n h=>?_,fun b xs h=>?_,fun b xs h=>?_,fun b kvs n h=>?_,fun b φ n h=>?_,fun b C dx fs n h=>?_⟩
 ·have ne : b≠a:=fun z=>n (z ▸ hb)
  rw [z0A ne]; exact h
 ·rcases h with (h | ⟨u,h⟩) | h
  ·have ne : b≠a:=fun z=>by subst z; rw [h] at mu; exact mu
   exact .inl (.inl (by rw [z0A ne]; exact h))
  ·have ne : b≠a:=fun z=>by subst z; rw [h] at mu; exact mu
   exact .inl (.inr ⟨u,by rw [z0A ne]; exact h⟩)
  ·exact .inr h
 ·rcases h with ⟨u,h⟩ | h
  ·have ne : b≠a:=fun z=>by subst z; rw [h] at mu; exact mu
   exact .inl ⟨u,by rw [z0A ne]; exact h⟩
  ·exact .inr h
 ·have ne : b≠a:=fun z=>n (z ▸ hb)
  rw [z0A ne]; exact h
 ·have ne : b≠a:=fun z=>n (z ▸ hb)
  rw [z0A ne]; exact h
 ·have ne : b≠a:=fun z=>n (z ▸ hb)
  rw [z0A ne]; exact h
theorem z0t {a : Addr} {o : HO} (h : H a=none) : Same H (upd H a o):=fun b u e=>by rw [z0A (z1s e h)]; exact e
theorem Reps.length : ∀ {ds : List D} {xs : List V},Reps K H B ds xs->ds.length=xs.length
 | [],_,h=>by unfold Reps at h; subst h; rfl
 | d :: ds,_,h=>by
  unfold Reps at h
  obtain ⟨x,r,rfl,_,h2⟩:=h
  simp [Reps.length h2]
theorem Reps.get : ∀ {ds : List D} {xs : List V} {i : Nat} {d : D},Reps K H B ds xs->ds[i]? = some d->∃ x,xs[i]? = some x∧Rep K H B d x
 | [],_,_,_,_,e=>by simp at e
 | d :: ds,_,i,d',h,e=>by
  unfold Reps at h
  obtain ⟨x,r,rfl,h1,h2⟩:=h
  cases i with
  | zero=>simp at e; subst e; exact ⟨x,rfl,h1⟩
  | succ i=>simpa using Reps.get (i:=i) h2 (by simpa using e)
theorem Reps.get' : ∀ {ds : List D} {xs : List V} {i : Nat} {x : V},Reps K H B ds xs->xs[i]? = some x->∃ d,ds[i]? = some d∧Rep K H B d x
 | [],_,_,_,h,e=>by unfold Reps at h; subst h; simp at e
 | d :: ds,_,i,x',h,e=>by
  unfold Reps at h
  obtain ⟨x,r,rfl,h1,h2⟩:=h
  cases i with
  | zero=>simp at e; subst e; exact ⟨d,rfl,h1⟩
  | succ i=>simpa using Reps.get' (i:=i) h2 (by simpa using e)
theorem Reps.append : ∀ {ds es : List D} {xs ys : List V},Reps K H B ds xs->Reps K H B es ys->Reps K H B (ds ++ es) (xs ++ ys)
 | [],_,_,_,h,h'=>by unfold Reps at h; subst h; exact h'
 | d :: ds,es,_,ys,h,h'=>by
  unfold Reps at h
  obtain ⟨x,r,rfl,h1,h2⟩:=h
  exact (show Reps K H B (d :: (ds ++ es)) (x :: (r ++ ys)) by unfold Reps; exact ⟨x,r ++ ys,rfl,h1,Reps.append h2 h'⟩)
theorem Reps.take : ∀ {ds : List D} {xs : List V} (n : Nat),Reps K H B ds xs->Reps K H B (ds.take n) (xs.take n)
 | _,_,0,_=>by rw [cP,cP]; unfold Reps; rfl
 | [],_,_ + 1,h=>by unfold Reps at h; subst h; unfold Reps; rfl
 | d :: ds,_,n + 1,h=>by
  unfold Reps at h
  obtain ⟨x,r,rfl,h1,h2⟩:=h
  rw [cq,cq]
  unfold Reps
  exact ⟨x,_,rfl,h1,Reps.take n h2⟩
theorem Reps.drop : ∀ {ds : List D} {xs : List V} (n : Nat),Reps K H B ds xs->Reps K H B (ds.drop n) (xs.drop n)
 | _,_,0,h=>h
 | [],_,_ + 1,h=>by unfold Reps at h; subst h; unfold Reps; rfl
 | d :: ds,_,n + 1,h=>by
  unfold Reps at h
  obtain ⟨x,r,rfl,h1,h2⟩:=h
  exact Reps.drop n h2
theorem Reps.one {d : D} {x : V} (h : Rep K H B d x) : Reps K H B [d] [x]:=by unfold Reps; exact ⟨x,[],rfl,h,by unfold Reps; rfl⟩
theorem Reps.nil : Reps K H B [] []:=by unfold Reps; rfl
theorem Reps.cons {d : D} {x : V} {ds : List D} {xs : List V} (h : Rep K H B d x) (h' : Reps K H B ds xs) : Reps K H B (d :: ds) (x :: xs):=by unfold Reps; exact ⟨x,xs,rfl,h,h'⟩
theorem Reps.snoc {d : D} {x : V} {ds : List D} {xs : List V} (h' : Reps K H B ds xs) (h : Rep K H B d x) : Reps K H B (ds ++ [d]) (xs ++ [x]):=h'.append (.one h)
theorem Trees.nil : Trees K H [] [] []:=⟨rfl,rfl⟩
theorem Trees.snoc : ∀ {ds : List D} {xs : List V} {A C : List Addr} {d : D} {x : V},Trees K H ds xs A->Tree K H d x C->Trees K H (ds ++ [d]) (xs ++ [x]) (A ++ C)
 | [],_,_,C,d,x,h,h'=>by
  obtain ⟨rfl,rfl⟩:=h
  exact (show Trees K H [d] [x] C by unfold Trees; exact ⟨x,[],C,[],rfl,h',⟨rfl,rfl⟩,(aG _).symm⟩)
 | e :: ds,_,_,C,d,x,h,h'=>by
  unfold Trees at h
  obtain ⟨y,r,A1,A2,rfl,h1,h2,rfl⟩:=h
  exact (show Trees K H (e :: (ds ++ [d])) (y :: (r ++ [x])) (A1 ++ A2 ++ C) by unfold Trees; exact ⟨y,_,A1,A2 ++ C,rfl,h1,Trees.snoc h2 h',aL _ _ _⟩)
end
end L2
namespace L2
open PySem PySem.Spec PyProof.Rows
abbrev DS:=List (Option D)
abbrev DE:=DS->Option D
structure RepS (K : aa) (H : Hp) (B : Addr->Prop) (σ : St) (δ : DS) : Prop where
 len : δ.length=σ.length
 get : ∀ (i : Nat) (d : D),δ[i]? = some (some d)->∃ v,σ[i]? = some (some v)∧Rep K H B d v
def InB (B : Addr->Prop) (H : Hp) : Prop:=∀ a,B a->∃ o,H a=some o
def noB : Addr->Prop:=fun _=>False
theorem InB.mono {B : Addr->Prop} {H H' : Hp} (h : InB B H) (e : Same H H') : InB B H':=fun a b=>let ⟨o,q⟩:=h a b; ⟨o,e a o q⟩
theorem InB.no {H : Hp} : InB noB H:=fun _ b=>b.elim
theorem InB.fresh {B : Addr->Prop} {H : Hp} (h : InB B H) {a : Addr} (e : H a=none) : ¬ B a:=fun b=>by
 obtain ⟨o,q⟩:=h a b
 rw [e] at q; cases q
theorem RepS.mono {K : aa} {H H' : Hp} {B : Addr->Prop} {σ : St} {δ : DS} (h : RepS K H B σ δ) (e : Same H H') : RepS K H' B σ δ:=
 ⟨h.len,fun i d q=>let ⟨v,a,r⟩:=h.get i d q; ⟨v,a,r.mono e⟩⟩
theorem RepS.anti {K : aa} {H : Hp} {B B' : Addr->Prop} {σ : St} {δ : DS} (h : RepS K H B σ δ) (e : ∀ a,B' a->B a) : RepS K H B' σ δ:=
 ⟨h.len,fun i d q=>let ⟨v,a,r⟩:=h.get i d q; ⟨v,a,r.anti e⟩⟩
def tD (K : aa) (f : DE) : TE:=fun σ H Q=>∃ B δ d,InB B H∧RepS K H B σ δ∧f δ=some d∧∀ v H',Same H H'->Rep K H' B d v->Q v H'
def tF (K : aa) (f : DS->Option (List D)) : TE:=fun σ H Q=>∃ B δ ds,InB B H∧RepS K H B σ δ∧f δ=some ds ∧
 ∀ a xs H',Same H H'->H a=none->H' a=some (.lst xs)->Reps K H' B ds xs->Q (.ref a) H'
def tN (K : aa) (f : DE) : TE:=fun σ H Q=>∃ δ d,RepS K H noB σ δ∧f δ=some d∧∀ v H' A,Same H H'->Tree K H' d v A->A.Nodup->(∀ a∈A,H a=none)->Q v H'
def tT (K : aa) (f : DS->Option Bool) : TT:=fun σ H Q=>∃ B δ b,InB B H∧RepS K H B σ δ∧f δ=some b∧∀ H',Same H H'->Q b H'
def tDs (K : aa) (f : DS->Option (List D)) : TA:=fun σ H Q=>∃ B δ ds,InB B H∧RepS K H B σ δ∧f δ=some ds∧∀ vs H',Same H H'->Reps K H' B ds vs->Q vs H'
abbrev PD (X : Cx) (e : Expr) (f : DE) : Prop:=PE X e (tD X.K f)
abbrev PF (X : Cx) (e : Expr) (f : DS->Option (List D)) : Prop:=PE X e (tF X.K f)
abbrev PN (X : Cx) (e : Expr) (f : DE) : Prop:=PE X e (tN X.K f)
abbrev PTD (X : Cx) (e : Expr) (f : DS->Option Bool) : Prop:=PT X e (tT X.K f)
abbrev PWD (X : Cx) (e : Expr) (f : DS->Option Bool) : Prop:=PW X e (tT X.K f)
section
variable {X : Cx} {e a b c : Expr} {es : List Expr} {pos : Pos}
theorem PE.imp {t t' : TE} (h : PE X e t) (w : ∀ σ H Q,t' σ H Q->t σ H Q) : PE X e t':=fun pins s σ H Q I q=>h pins s σ H Q I (w σ H Q q)
theorem PT.imp {t t' : TT} (h : PT X e t) (w : ∀ σ H Q,t' σ H Q->t σ H Q) : PT X e t':=fun pins s σ H Q I q=>h pins s σ H Q I (w σ H Q q)
theorem PW.imp {t t' : TT} (h : PW X e t) (w : ∀ σ H Q,t' σ H Q->t σ H Q) : PW X e t':=fun wh pins s σ H Q I q=>h wh pins s σ H Q I (w σ H Q q)
theorem PA.imp {t t' : TA} (h : PA X es t) (w : ∀ σ H Q,t' σ H Q->t σ H Q) : PA X es t':=fun po pins s σ H Q I q=>h po pins s σ H Q I (w σ H Q q)
def mkL (f : DS->Option (List D)) : DE:=fun δ=>(f δ).map .lst
def z0C (f : DS->Option (List D)) : DE:=fun δ=>(f δ).bind fun ds=>if z2z ds=true then some (.lst ds) else none
theorem iDF {K : aa} {f : DS->Option (List D)} : ∀ σ H Q,tD K (mkL f) σ H Q->tF K f σ H Q:=fun σ H Q ⟨B,δ,d,hB,S,q,k⟩=>by
 unfold mkL at q
 cases r : f δ with
 | none=>rw [r] at q; cases q
 | some ds=>
  rw [r] at q
  cases q
  exact ⟨B,δ,ds,hB,S,r,fun a xs H' s hn ha hr=>k _ H' s (by unfold Rep; exact ⟨a,xs,rfl,hB.fresh hn,ha,hr⟩)⟩
theorem iDN {K : aa} {f : DE} : ∀ σ H Q,tD K f σ H Q->tN K f σ H Q:=fun σ H Q ⟨B,δ,d,hB,S,q,k⟩=>
 ⟨δ,d,S.anti (fun _ z=>z.elim),q,fun v H' A s t nd fr=>k v H' s (t.rep d fun a ha=>hB.fresh (fr a ha))⟩
theorem iNF {K : aa} {f : DS->Option (List D)} : ∀ σ H Q,tN K (z0C f) σ H Q->tF K f σ H Q:=fun σ H Q ⟨δ,d,S,q,k⟩=>by
 unfold z0C at q
 cases r : f δ with
 | none=>rw [r] at q; cases q
 | some ds=>
  rw [r] at q
  have q' : (if z2z ds=true then some (D.lst ds) else none)=some d:=q
  split at q'
  ·rename_i hi
   cases q'
   refine ⟨noB,δ,ds,.no,S,r,fun a xs H' s hn ha hr=>k (.ref a) H' [a] s ?_ (aE.mpr ⟨(fun z=>nomatch z),bh⟩) (fun b hb=>by rw [ai.mp hb]; exact hn)⟩
   unfold Tree
   exact ⟨a,xs,[],rfl,ha,hr.immTree ds hi,rfl⟩
  ·cases q'
theorem z4E {f : DS->Option (List D)} (h : PF X e f) : PD X e (mkL f):=h.imp iDF
theorem z4F {f : DE} (h : PN X e f) : PD X e f:=h.imp iDN
theorem z6o {f : DS->Option (List D)} (h : PF X e f) : PN X e (z0C f):=h.imp iNF
def z0c (i : Nat) : DE:=fun δ=>(δ[i]?).bind id
def dC (d : D) : DE:=fun _=>some d
theorem z0f (i : Nat) {x : Str} {p : Pos} (h : PE X (.Name x p) (y3i i)) : PD X (.Name x p) (z0c i):=h.imp fun σ H Q ⟨B,δ,d,hB,S,q,k⟩=>by
 unfold z0c at q
 cases r : δ[i]? with
 | none=>rw [r] at q; cases q
 | some o=>
  rw [r] at q
  have q' : o=some d:=q
  subst q'
  obtain ⟨v,e,rv⟩:=S.get i d r
  exact ⟨v,e,k v H (.refl H) rv⟩
theorem pd_C {d : D} {v : V} (h : PE X e (tC v)) (r : ∀ K H B,Rep K H B d v) : PD X e (dC d):=h.imp fun σ H Q ⟨B,δ,d',hB,S,q,k⟩=>by
 cases q
 exact k v H (.refl H) (r _ _ _)
theorem z0m {i j p} : PD X (.Constant (.int i) j p) (dC (.int i)):=pd_C pe_int fun _ _ _=>rfl
theorem z7H {i j p} : PD X (.Constant (.bool i) j p) (dC (.bl i)):=pd_C pe_bl fun _ _ _=>rfl
theorem pd_non {j p} : PD X (.Constant .none j p) (dC .non):=pd_C pe_non fun _ _ _=>rfl
theorem z0M {i j p} : PD X (.Constant (.str i) j p) (dC (.str i)):=pd_C pe_str fun _ _ _=>rfl
def d2 (F : D->D->Option D) (f g : DE) : DE:=fun δ=>(f δ).bind fun x=>(g δ).bind fun y=>F x y
theorem z8G {F : D->D->Option D} {f g : DE} {δ : DS} {d : D} (h : d2 F f g δ=some d) : ∃ x y,f δ=some x∧g δ=some y∧F x y=some d:=by
 unfold d2 at h
 cases hx : f δ with
 | none=>rw [hx] at h; cases h
 | some x=>
  rw [hx] at h
  cases hy : g δ with
  | none=>
   have h' : ((g δ).bind fun y=>F x y)=some d:=h
   rw [hy] at h'; cases h'
  | some y=>
   have h' : ((g δ).bind fun y=>F x y)=some d:=h
   rw [hy] at h'
   exact ⟨x,y,rfl,rfl,h'⟩
def Op2 (K : aa) (r : R2) (F : D->D->Option D) : Prop:=∀ (H : Hp) (B : Addr->Prop) (dx dy d : D) (x y : V) (Q : VK),InB B H->Rep K H B dx x->Rep K H B dy y->F dx dy=some d->(∀ v H',Same H H'->Rep K H' B d v->Q v H')->r x y H Q
theorem y3b {r : R2} {F : D->D->Option D} {f g : DE} (ho : Op2 X.K r F) (σ : St) (H : Hp) (Q : VK) (h : tD X.K (d2 F f g) σ H Q) : tOp r (tD X.K f) (tD X.K g) σ H Q:=by
 obtain ⟨B,δ,d,hB,S,q,k⟩:=h
 obtain ⟨dx,dy,e1,e2,e3⟩:=z8G q
 exact ⟨B,δ,dx,hB,S,e1,fun v H1 s1 r1=>⟨B,δ,dy,hB.mono s1,S.mono s1,e2,fun u H2 s2 r2=>
  ho H2 B dx dy d v u Q ((hB.mono s1).mono s2) (r1.mono s2) r2 e3 fun z H' s' rz=>k z H' ((s1.trans s2).trans s') rz⟩⟩
theorem y9o {op : Operator} {r : R2} {F : D->D->Option D} {f g : DE} (ho : OpR X (binaryOp op) r) (hD : Op2 X.K r F) (ha : PD X a f) (hb : PD X b g) : PD X (.BinOp a op b pos) (d2 F f g):=(pe_op ho ha hb).imp (y3b hD)
theorem pd_cmp {op : CmpOp} {r : R2} {F : D->D->Option D} {f g : DE} (ho : OpR X (compareOp op) r) (hD : Op2 X.K r F) (ha : PD X a f) (hb : PD X b g) (hm : behindInMarks op b=false) : PD X (.Compare a [op] [b] pos) (d2 F f g):=(pe_cmpR ho ha hb hm).imp (y3b hD)
def z0F (f : DE) : DS->Option Bool:=fun δ=>match f δ with
 | some (.bl b)=>some b
 | _=>none
theorem y3Y {f : DE} {δ : DS} {b : Bool} (h : z0F f δ=some b) : f δ=some (.bl b):=by
 unfold z0F at h
 split at h
 ·rename_i b' e
  cases h; exact e
 ·cases h
theorem test_of {t : TE} {f : DE} (h : ∀ σ H Q,tD X.K f σ H Q->t σ H Q) (σ : St) (H : Hp) (Q : Bool->Hp->Prop) (q : tT X.K (z0F f) σ H Q) : tTest t σ H Q:=by
 obtain ⟨B,δ,b,hB,S,q,k⟩:=q
 refine h σ H _ ⟨B,δ,.bl b,hB,S,y3Y q,fun v H' s r=>?_⟩
 exact ⟨b,r,k H' s⟩
theorem z5Z {op : CmpOp} {r : R2} {F : D->D->Option D} {f g : DE} (ho : OpR X (compareOp op) r) (hD : Op2 X.K r F) (ha : PD X a f) (hb : PD X b g) (hm : behindInMarks op b=false) : PTD X (.Compare a [op] [b] pos) (z0F (d2 F f g)):=(pt_cmpR ho ha hb hm).imp (test_of (y3b hD))
def z7Z (F G : D->D->Option D) (f g h : DE) : DE:=fun δ=>(f δ).bind fun x=>(g δ).bind fun y=>match F x y with
 | some (.bl true)=>(h δ).bind fun z=>G y z
 | some (.bl false)=>some (.bl false)
 | _=>none
theorem y8L {r r' : R2} {F G : D->D->Option D} {f g h : DE} (ho : Op2 X.K r F) (ho' : Op2 X.K r' G) (σ : St) (H : Hp) (Q : VK) (q : tD X.K (z7Z F G f g h) σ H Q) : x0G r r' (tD X.K f) (tD X.K g) (tD X.K h) σ H Q:=by
 obtain ⟨B,δ,d,hB,S,q,k⟩:=q
 unfold z7Z at q
 cases e1 : f δ with
 | none=>rw [e1] at q; cases q
 | some x=>
  rw [e1] at q
  cases e2 : g δ with
  | none=>
   have q' : ((g δ).bind _)=some d:=q
   rw [e2] at q'; cases q'
  | some y=>
   have q' : ((g δ).bind _)=some d:=q
   rw [e2] at q'
   have q2 : (match F x y with | some (.bl true)=>(h δ).bind fun z=>G y z | some (.bl false)=>some (.bl false) | _=>none)=some d:=q'
   refine ⟨B,δ,x,hB,S,e1,fun v H1 s1 r1=>⟨B,δ,y,hB.mono s1,S.mono s1,e2,fun u H2 s2 r2=>?_⟩⟩
   split at q2
   ·rename_i e3
    refine ho H2 B x y _ v u _ ((hB.mono s1).mono s2) (r1.mono s2) r2 e3 fun z H3 s3 r3=>⟨true,r3,?_⟩
    rw [if_pos rfl]
    cases e4 : h δ with
    | none=>rw [e4] at q2; cases q2
    | some w=>
     rw [e4] at q2
     have q4 : G y w=some d:=q2
     refine ⟨B,δ,w,((hB.mono s1).mono s2).mono s3,((S.mono s1).mono s2).mono s3,e4,fun t H4 s4 r4=>?_⟩
     exact ho' H4 B y w d u t Q ((((hB.mono s1).mono s2).mono s3).mono s4) ((r2.mono s3).mono s4) r4 q4 fun z' H' s' rz=>k z' H' ((((s1.trans s2).trans s3).trans s4).trans s') rz
   ·rename_i e3
    cases q2
    refine ho H2 B x y _ v u _ ((hB.mono s1).mono s2) (r1.mono s2) r2 e3 fun z H3 s3 r3=>⟨false,r3,?_⟩
    rw [if_neg ax]
    exact k _ H3 ((s1.trans s2).trans s3) rfl
   ·cases q2
theorem y9w {op op' : CmpOp} {r r' : R2} {F G : D->D->Option D} {f g h : DE} (ho : OpR X (compareOp op) r) (ho' : OpR X (compareOp op') r') (hF : Op2 X.K r F) (hG : Op2 X.K r' G) (ha : PD X a f) (hb : PD X b g) (hc : PD X c h)
  (hm : lastMarks [op,op'] [b,c]=false:=by with_unfolding_all rfl) : PD X (.Compare a [op,op'] [b,c] pos) (z7Z F G f g h):=(y8B ho ho' ha hb hc hm).imp (y8L hF hG)
def iop (F : Int->Int->Option D) : D->D->Option D
 | .int i,.int j=>F i j
 | _,_=>none
theorem z8Y {F : Int->Int->Option D} {x y d : D} (h : iop F x y=some d) : ∃ i j,x = .int i∧y = .int j∧F i j=some d:=by
 unfold iop at h
 split at h
 ·exact ⟨_,_,rfl,rfl,h⟩
 ·cases h
theorem y7C {K : aa} {C : Int->Int->Prop} [∀ i j,Decidable (C i j)] {g : Int->Int->Int} : Op2 K (rI C fun i j=>.int (g i j)) (iop fun i j=>if C i j then some (.int (g i j)) else none):=by
 intro H B dx dy d x y Q hB hx hy q k
 obtain ⟨i,j,rfl,rfl,q2⟩:=z8Y q
 by_cases hc : C i j
 ·rw [if_pos hc] at q2
  cases q2
  exact ⟨i,j,hx,hy,hc,k _ H (.refl H) rfl⟩
 ·rw [if_neg hc] at q2
  cases q2
theorem o2_int0 {K : aa} {g : Int->Int->Int} : Op2 K (rI0 fun i j=>.int (g i j)) (iop fun i j=>some (.int (g i j))):=by
 intro H B dx dy d x y Q hB hx hy q k
 obtain ⟨i,j,rfl,rfl,q2⟩:=z8Y q
 cases q2
 exact ⟨i,j,hx,hy,k _ H (.refl H) rfl⟩
theorem z6F {K : aa} {g : Int->Int->Bool} : Op2 K (rI0 fun i j=>.bl (g i j)) (iop fun i j=>some (.bl (g i j))):=by
 intro H B dx dy d x y Q hB hx hy q k
 obtain ⟨i,j,rfl,rfl,q2⟩:=z8Y q
 cases q2
 exact ⟨i,j,hx,hy,k _ H (.refl H) rfl⟩
def d1 (F : D->Option D) (f : DE) : DE:=fun δ=>(f δ).bind F
theorem y5B {F : D->Option D} {f : DE} {δ : DS} {d : D} (h : d1 F f δ=some d) : ∃ x,f δ=some x∧F x=some d:=by
 unfold d1 at h
 cases hx : f δ with
 | none=>rw [hx] at h; cases h
 | some x=>rw [hx] at h; exact ⟨x,rfl,h⟩
def y8U : D->Option D
 | .int i=>some (.int (-i))
 | _=>none
theorem y2g {f : DE} (h : PD X a f) : PD X (.UnaryOp .USub a pos) (d1 y8U f):=(pe_un un_neg h).imp fun σ H Q ⟨B,δ,d,hB,S,q,k⟩=>by
 obtain ⟨x,e1,e2⟩:=y5B q
 refine ⟨B,δ,x,hB,S,e1,fun v H' s r=>?_⟩
 unfold y8U at e2
 split at e2
 ·cases e2
  exact ⟨_,r,k _ H' s rfl⟩
 ·cases e2
def z5r : D->Option Bool
 | .non=>some false
 | .bl b=>some b
 | .int i=>some (i != 0)
 | .str x=>if x.length≤sizeLine then some ((x.length : Int) != 0) else none
 | .lst ds=>some (!ds.isEmpty)
 | .tup ds=>some (!ds.isEmpty)
 | .scr ns=>some (!ns.isEmpty)
 | .dct ks _=>some (!ks.isEmpty)
 | .exc _=>none
 | .obj _ _ _ _=>none
 | .cel _ _=>none
def z0I (f : DE) : DS->Option Bool:=fun δ=>(f δ).bind z5r
theorem y2a {K : aa} {H : Hp} {B : Addr->Prop} {ds : List D} {xs : List V} (h : Reps K H B ds xs) : (!ds.isEmpty) = !xs.isEmpty:=by
 have:=h.length
 cases ds <;> cases xs <;> simp_all
theorem y4y {K : aa} {H : Hp} {B : Addr->Prop} {d : D} {v : V} {k : Bool} (h : Rep K H B d v) (e : z5r d=some k) : TruV K v H k:=by
 cases d with
 | non=>cases h; cases e; rfl
 | bl b=>cases h; cases e; rfl
 | int i=>cases h; cases e; rfl
 | str x=>
  cases h
  have e' : (if x.length≤sizeLine then some ((x.length : Int) != 0) else none)=some k:=e
  by_cases hl : x.length≤sizeLine
  ·rw [if_pos hl] at e'
   cases e'
   exact ⟨hl,rfl⟩
  ·rw [if_neg hl] at e'
   cases e'
 | lst ds=>
  unfold Rep at h
  obtain ⟨a,xs,rfl,_,s,r⟩:=h
  cases e
  exact .inl ⟨xs,SqL.of s,y2a r⟩
 | tup ds=>
  unfold Rep at h
  obtain ⟨a,xs,rfl,s,r⟩:=h
  cases e
  exact .inr (.inl ⟨xs,s,y2a r⟩)
 | scr ns=>
  unfold Rep at h
  obtain ⟨a,rfl,s⟩:=h
  cases e
  exact .inl ⟨_,s.sq,by cases ns <;> rfl⟩
 | dct ks ds=>
  unfold Rep at h
  obtain ⟨a,kvs,rfl,_,s,q,r⟩:=h
  cases e
  refine .inr (.inr ⟨kvs,s,?_⟩)
  rw [← q]
  cases kvs <;> rfl
 | exc _=>cases e
 | obj _ _ _ _=>cases e
 | cel _ _=>cases e
theorem z0y {f : DE} (h : PD X a f) (he : ∀ whole,isTrue a X.env whole=(do let v ← whole; standAt a.pos; holding [v] (truthy v)):=by intro _; rfl) : PTD X a (z0I f):=(y8Z h he).imp fun σ H Q ⟨B,δ,k,hB,S,q,kk⟩=>by
 unfold z0I at q
 cases e : f δ with
 | none=>rw [e] at q; cases q
 | some d=>
  rw [e] at q
  exact ⟨B,δ,d,hB,S,e,fun v H' s r=>⟨k,y4y r q,kk H' s⟩⟩
def z8Q (f g : DS->Option Bool) : DS->Option Bool:=fun δ=>(f δ).bind fun c=>if c=true then g δ else some false
def y7Q (f g : DS->Option Bool) : DS->Option Bool:=fun δ=>(f δ).bind fun c=>if c=true then some true else g δ
def z6p (f : DS->Option Bool) : DS->Option Bool:=fun δ=>(f δ).map (!·)
theorem y2v {f : DS->Option Bool} (h : PTD X a f) : PWD X (.BoolOp .And [a] pos) f:=pw_and1 h
theorem z8r {f : DS->Option Bool} (h : PTD X a f) : PWD X (.BoolOp .Or [a] pos) f:=pw_or1 h
theorem y1v {rest : List Expr} {f g : DS->Option Bool} (ha : PTD X a f) (hb : PWD X (.BoolOp .And (b :: rest) pos) g) : PWD X (.BoolOp .And (a :: b :: rest) pos) (z8Q f g):=(pw_and ha hb).imp fun σ H Q ⟨B,δ,k,hB,S,q,kk⟩=>by
 unfold z8Q at q
 cases e : f δ with
 | none=>rw [e] at q; cases q
 | some c=>
  rw [e] at q
  refine ⟨B,δ,c,hB,S,e,fun H1 s1=>?_⟩
  have q' : (if c=true then g δ else some false)=some k:=q
  cases c with
  | true=>
   rw [if_pos rfl] at q'
   refine iteT ?_
   exact ⟨B,δ,k,hB.mono s1,S.mono s1,q',fun H2 s2=>kk H2 (s1.trans s2)⟩
  | false=>
   rw [if_neg ax] at q'
   refine iteF ?_
   cases q'
   exact kk H1 s1
theorem y2G {rest : List Expr} {f g : DS->Option Bool} (ha : PTD X a f) (hb : PWD X (.BoolOp .Or (b :: rest) pos) g) : PWD X (.BoolOp .Or (a :: b :: rest) pos) (y7Q f g):=(pw_or ha hb).imp fun σ H Q ⟨B,δ,k,hB,S,q,kk⟩=>by
 unfold y7Q at q
 cases e : f δ with
 | none=>rw [e] at q; cases q
 | some c=>
  rw [e] at q
  refine ⟨B,δ,c,hB,S,e,fun H1 s1=>?_⟩
  have q' : (if c=true then some true else g δ)=some k:=q
  cases c with
  | true=>
   rw [if_pos rfl] at q'
   refine iteT ?_
   cases q'
   exact kk H1 s1
  | false=>
   rw [if_neg ax] at q'
   refine iteF ?_
   exact ⟨B,δ,k,hB.mono s1,S.mono s1,q',fun H2 s2=>kk H2 (s1.trans s2)⟩
theorem z5M {f : DS->Option Bool} (h : PTD X a f) : PTD X (.UnaryOp .Not a pos) (z6p f):=(pt_not h).imp fun σ H Q ⟨B,δ,k,hB,S,q,kk⟩=>by
 unfold z6p at q
 cases e : f δ with
 | none=>rw [e] at q; cases q
 | some c=>
  rw [e] at q
  cases q
  exact ⟨B,δ,c,hB,S,e,kk⟩
def y7O (f g : DE) : DE:=fun δ=>match f δ with
 | some (.bl true)=>g δ
 | some (.bl false)=>some (.bl false)
 | _=>none
def uNot : D->Option D
 | .bl b=>some (.bl (!b))
 | _=>none
theorem y2q {op} {f : DE} (h : PD X a f) : PD X (.BoolOp op [a] pos) f:=pe_one h
theorem z9O {rest : List Expr} {f g : DE} (ha : PD X a f) (hb : PD X (.BoolOp .And (b :: rest) pos) g) : PD X (.BoolOp .And (a :: b :: rest) pos) (y7O f g):=(pe_and ha hb).imp fun σ H Q ⟨B,δ,d,hB,S,q,k⟩=>by
 unfold y7O at q
 split at q
 ·rename_i e
  refine ⟨B,δ,.bl true,hB,S,e,fun v H1 s1 r=>⟨true,r,?_⟩⟩
  rw [if_pos rfl]
  exact ⟨B,δ,d,hB.mono s1,S.mono s1,q,fun v2 H2 s2 r2=>k v2 H2 (s1.trans s2) r2⟩
 ·rename_i e
  cases q
  refine ⟨B,δ,.bl false,hB,S,e,fun v H1 s1 r=>⟨false,r,?_⟩⟩
  rw [if_neg ax]
  exact k _ H1 s1 rfl
 ·cases q
theorem y9G {f : DE} (h : PD X a f) : PD X (.UnaryOp .Not a pos) (d1 uNot f):=(pe_not h).imp fun σ H Q ⟨B,δ,d,hB,S,q,k⟩=>by
 obtain ⟨x,e1,e2⟩:=y5B q
 refine ⟨B,δ,x,hB,S,e1,fun v H' s r=>?_⟩
 unfold uNot at e2
 split at e2
 ·cases e2
  exact ⟨_,r,k _ H' s rfl⟩
 ·cases e2
def dIf (c : DS->Option Bool) (f g : DE) : DE:=fun δ=>(c δ).bind fun k=>if k=true then f δ else g δ
theorem pd_if {t : DS->Option Bool} {f g : DE} (hc : PTD X c t) (ha : PD X a f) (hb : PD X b g) : PD X (.IfExp c a b pos) (dIf t f g):=(y7V hc ha hb).imp fun σ H Q ⟨B,δ,d,hB,S,q,k⟩=>by
 unfold dIf at q
 cases e : t δ with
 | none=>rw [e] at q; cases q
 | some c=>
  rw [e] at q
  refine ⟨B,δ,c,hB,S,e,fun H1 s1=>?_⟩
  have q' : (if c=true then f δ else g δ)=some d:=q
  cases c with
  | true=>
   rw [if_pos rfl] at q'
   refine iteT ?_
   exact ⟨B,δ,d,hB.mono s1,S.mono s1,q',fun v2 H2 s2 r2=>k v2 H2 (s1.trans s2) r2⟩
  | false=>
   rw [if_neg ax] at q'
   refine iteF ?_
   exact ⟨B,δ,d,hB.mono s1,S.mono s1,q',fun v2 H2 s2 r2=>k v2 H2 (s1.trans s2) r2⟩
def z0o : List DE->DS->Option (List D)
 | [],_=>some []
 | f :: r,δ=>(f δ).bind fun x=>(z0o r δ).bind fun xs=>some (x :: xs)
theorem z6c {f : DE} {r : List DE} {δ : DS} {ds : List D} (h : z0o (f :: r) δ=some ds) : ∃ x xs,f δ=some x∧z0o r δ=some xs∧ds=x :: xs:=by
 unfold z0o at h
 cases hx : f δ with
 | none=>rw [hx] at h; cases h
 | some x=>
  rw [hx] at h
  have h' : ((z0o r δ).bind fun xs=>some (x :: xs))=some ds:=h
  cases hy : z0o r δ with
  | none=>rw [hy] at h'; cases h'
  | some xs=>
   rw [hy] at h'
   cases h'
   exact ⟨x,xs,rfl,rfl,rfl⟩
theorem z3g : ∀ {fl : List DE} {δ : DS} {ds : List D},z0o fl δ=some ds->ds.length=fl.length
 | [],_,_,h=>by cases h; rfl
 | f :: r,δ,ds,h=>by
  obtain ⟨x,xs,_,e,rfl⟩:=z6c h
  simp [z3g e]
abbrev PAD (X : Cx) (es : List Expr) (fl : List DE) : Prop:=PA X es (tDs X.K (z0o fl))
theorem z0e : PAD X [] []:=pa_nil.imp fun σ H Q ⟨B,δ,ds,hB,S,q,k⟩=>by
 cases q
 exact k [] H (.refl H) .nil
theorem z0a {f : DE} {fl : List DE} (ha : PD X e f) (hr : PAD X es fl) (hs : starEach (e :: es) X.env=(false,eval e X.env) :: starEach es X.env:=by rfl) : PAD X (e :: es) (f :: fl):=(z1l ha hr hs).imp fun σ H Q ⟨B,δ,ds,hB,S,q,k⟩=>by
 obtain ⟨x,xs,e1,e2,rfl⟩:=z6c q
 exact ⟨B,δ,x,hB,S,e1,fun v H1 s1 r1=>⟨B,δ,xs,hB.mono s1,S.mono s1,e2,fun vs H2 s2 r2=>k (v :: vs) H2 (s1.trans s2) (.cons (r1.mono s2) r2)⟩⟩
theorem z0T {fl : List DE} (h : PAD X es fl) (hl : fl.length≤1000:=by decide) : PF X (.List es pos) (z0o fl):=(y5H h).imp fun σ H Q ⟨B,δ,ds,hB,S,q,k⟩=>by
 refine ⟨B,δ,ds,hB,S,q,fun vs H1 s1 r1=>⟨?_,fun p hp=>?_⟩⟩
 ·rw [← r1.length,z3g q]
  exact bV (z7e hl)
 ·exact k p vs _ (s1.trans (z0t hp)) (s1.free hp) z0s (r1.mono (z0t hp))
def mkT (f : DS->Option (List D)) : DE:=fun δ=>(f δ).map .tup
theorem z5w {x1} {fl : List DE} (h : PAD X es fl) (hl : fl.length≤1000:=by decide) : PD X (.Tuple es x1 pos) (mkT (z0o fl)):=(pe_tup h).imp fun σ H Q ⟨B,δ,d,hB,S,q,k⟩=>by
 unfold mkT at q
 cases r : z0o fl δ with
 | none=>rw [r] at q; cases q
 | some ds=>
  rw [r] at q
  cases q
  refine ⟨B,δ,ds,hB,S,r,fun vs H1 s1 r1=>⟨?_,fun p hp=>?_⟩⟩
  ·rw [← r1.length,z3g r]
   exact bV (z7e hl)
  ·refine k _ _ (s1.trans (z0t hp)) ?_
   unfold Rep
   exact ⟨p,vs,rfl,SqT.of z0s,r1.mono (z0t hp)⟩
def ixD : D->D->Option D
 | .lst ds,.int i=>atI ds i
 | .tup ds,.int i=>atI ds i
 | .scr ns,.int i=>(atI ns i).map .int
 | _,_=>none
theorem atI_map {α β : Type} (f : α->β) (xs : List α) (i : Int) : atI (xs.map f) i=(atI xs i).map f:=by
 unfold atI
 rw [aq]
 cases ixN xs.length i with
 | none=>rfl
 | some j=>simp
theorem y2J {K : aa} {H : Hp} {B : Addr->Prop} {ds : List D} {xs : List V} {i : Int} {d : D} (h : Reps K H B ds xs) (e : atI ds i=some d) : ∃ x,atI xs i=some x∧Rep K H B d x:=by
 unfold atI at e ⊢
 rw [← h.length]
 cases q : ixN ds.length i with
 | none=>rw [q] at e; cases e
 | some j=>
  rw [q] at e
  exact h.get e
theorem o2_ix {K : aa} : Op2 K (rIx K) ixD:=by
 intro H B dx dy d x y Q hB hx hy q k
 unfold ixD at q
 split at q
 ·unfold Rep at hx
  obtain ⟨a,xs,rfl,_,s,r⟩:=hx
  obtain ⟨v,e,rv⟩:=y2J r q
  exact .inl ⟨a,xs,_,v,rfl,hy,SqL.of s,e,k v H (.refl H) rv⟩
 ·unfold Rep at hx
  obtain ⟨a,xs,rfl,s,r⟩:=hx
  obtain ⟨v,e,rv⟩:=y2J r q
  exact .inr (.inl ⟨a,xs,_,v,rfl,hy,s,e,k v H (.refl H) rv⟩)
 ·rename_i ns i
  unfold Rep at hx
  obtain ⟨a,rfl,s⟩:=hx
  cases e : atI ns i with
  | none=>rw [e] at q; cases q
  | some n=>
   rw [e] at q
   cases q
   exact .inl ⟨a,_,_,.int n,rfl,hy,s.sq,by rw [atI_map,e]; rfl,k _ H (.refl H) rfl⟩
 ·cases q
theorem z0D {f g : DE} (ha : PD X a f) (hb : PD X b g) (hs : z7a b:=by intro _ _; rfl) : PD X (.Subscript a b pos) (d2 ixD f g):=(y8M y7n ha hb hs).imp (y3b o2_ix)
def spR (K : aa) (F : List D->Option D) : Sp:=fun vs H Q _=>∃ B ds d,InB B H∧Reps K H B ds vs∧F ds=some d∧∀ v H',Same H H'->Rep K H' B d v->Q v H'
def spN (K : aa) (F : List D->Option D) : Sp:=fun vs H Q _=>∃ ds d,Reps K H noB ds vs∧F ds=some d∧∀ v H' A,Same H H'->Tree K H' d v A->A.Nodup->(∀ a∈A,H a=none)->Q v H'
structure DefOk (P : Program) (w : World) (K : aa) (mg : Str->Option Value) (base : Heap) (k : Nat) (x : Str) (sp : Sp) : Prop where
 ok : ∃ (f : Addr) (fd : FuncData) (ps : List Str),mg x=some (.ref f)∧ao K (.ref f)=true∧Binds K fd ps []∧FnOk P w K mg base CX0 k f fd ps sp
def z0k (F : List D->Option D) (fl : List DE) : DE:=fun δ=>(z0o fl δ).bind F
theorem z5J {F : List D->Option D} {fl : List DE} {δ : DS} {d : D} (h : z0k F fl δ=some d) : ∃ ds,z0o fl δ=some ds∧F ds=some d:=by
 unfold z0k at h
 cases q : z0o fl δ with
 | none=>rw [q] at h; cases h
 | some ds=>rw [q] at h; exact ⟨ds,rfl,h⟩
end
end L2
namespace L2
open PySem PySem.Spec PyProof.Rows
section
variable {X : Cx} {e a b c : Expr} {es : List Expr} {pos p : Pos} {x : Str} {k : Nat} {tg iter elt : Expr}
theorem z8U {sp : Sp} {t : TA} (G : DefOk X.prog X.w X.K X.mg X.base k x sp) (hr : Room k X.A) (hg : Gl X x) (ha : PA X (e :: es) t) (hdb : (x == ("__debug__" : Str))=false:=by decide)
  (he : starEach (e :: es) X.env=(false,eval e X.env) :: starEach es X.env:=by rfl) (hpl : (backTo pos (starEach es X.env)).any (·.1)=false:=by rfl) : PE X (.Call (.Name x p) (e :: es) [] pos) (tCall sp [] E0 t):=by
 obtain ⟨f,fd,ps,hm,hk,hb,ok⟩:=G.ok
 exact pe_call ok hr hg hm hk hb .nil pass0 ha hdb he hpl
theorem z2I {F : List D->Option D} {fl : List DE} (G : DefOk X.prog X.w X.K X.mg X.base k x (spR X.K F)) (hr : Room k X.A) (hg : Gl X x) (ha : PAD X (e :: es) fl) (hdb : (x == ("__debug__" : Str))=false:=by decide)
  (he : starEach (e :: es) X.env=(false,eval e X.env) :: starEach es X.env:=by rfl) (hpl : (backTo pos (starEach es X.env)).any (·.1)=false:=by rfl) : PD X (.Call (.Name x p) (e :: es) [] pos) (z0k F fl):=
 (z8U G hr hg ha hdb he hpl).imp fun σ H Q ⟨B,δ,d,hB,S,q,k⟩=>by
  obtain ⟨ds,e1,e2⟩:=z5J q
  refine ⟨B,δ,ds,hB,S,e1,fun vs H1 s1 r1=>?_⟩
  show spR X.K F (vs ++ []) H1 Q E0
  rw [aG]
  exact ⟨B,ds,d,hB.mono s1,r1,e2,fun v H' s' r=>k v H' (s1.trans s') r⟩
theorem z0q {F : List D->Option D} {fl : List DE} (G : DefOk X.prog X.w X.K X.mg X.base k x (spN X.K F)) (hr : Room k X.A) (hg : Gl X x) (ha : PAD X (e :: es) fl) (hdb : (x == ("__debug__" : Str))=false:=by decide)
  (he : starEach (e :: es) X.env=(false,eval e X.env) :: starEach es X.env:=by rfl) (hpl : (backTo pos (starEach es X.env)).any (·.1)=false:=by rfl) : PN X (.Call (.Name x p) (e :: es) [] pos) (z0k F fl):=
 (z8U G hr hg ha hdb he hpl).imp fun σ H Q ⟨δ,d,S,q,k⟩=>by
  obtain ⟨ds,e1,e2⟩:=z5J q
  refine ⟨noB,δ,ds,.no,S,e1,fun vs H1 s1 r1=>?_⟩
  show spN X.K F (vs ++ []) H1 Q E0
  rw [aG]
  exact ⟨ds,d,r1,e2,fun v H' A s' t nd fr=>k v H' A (s1.trans s') t nd fun a ha=>s1.free (fr a ha)⟩
structure ItD (K : aa) (J : It) (H : Hp) (B : Addr->Prop) (ds : List D) : Prop where
 go : ∀ i H',Keep K B H H'->i < ds.length->J.go i H'
 stop : ∀ i H',Keep K B H H'->ds.length≤i->J.stop i H'
 yld : ∀ i H' x H2,Keep K B H H'->J.yld i H' x H2->Same H' H2∧∃ d,(i < ds.length->ds[i]? = some d)∧Rep K H2 B d x
def ItW (K : aa) (J : It) (H : Hp) (B : Addr->Prop) (ds : List D) : Prop:=∀ C : Addr->Prop,(∀ a,C a->H a=none)->ItD K J H (fun a=>B a∨C a) ds
def tI (K : aa) (f : DS->Option (List D)) : TI:=fun σ H R=>∃ B δ ds,InB B H∧RepS K H B σ δ∧f δ=some ds∧∀ J H',Same H H'->ItW K J H' B ds->R J H'
abbrev PID (X : Cx) (tg iter : Expr) (f : DS->Option (List D)) : Prop:=PI X tg iter (tI X.K f)
theorem PI.imp {wi wi' : TI} (h : PI X tg iter wi) (w : ∀ σ H R,wi' σ H R->wi σ H R) : PI X tg iter wi':=fun pins s σ H R I q=>h pins s σ H R I (w σ H R q)
def iSeq (K : aa) (tl : TE) : TI:=fun σ H R=>tl σ H fun x H1=>∃ a,x = .ref a∧(((∃ xs,SqL K H1 a xs)∧R (Itl K a) H1)∨((∃ xs,SqT K H1 a xs)∧R (Itt K a) H1))
theorem pi_seq {l : Expr} {tl : TE} (hl : PE X l tl) : PI X tg l (iSeq X.K tl):=by
 intro pins s σ H R I h
 refine thn (hl pins s σ H _ I h) fun v s1 ⟨x,H1,I1,r1,q1⟩=>?_
 obtain ⟨a,e,q1⟩:=q1
 subst e
 cases r1
 have fp : ∀ b∈[s1.heap.objs.size],y0A X pins H1 b:=fun b hb=>by
  have e : b=s1.heap.objs.size:=by simpa using hb
  subst e
  exact I1.fpOk (ar _) (I1.hok.fresh (ar _))
 rcases q1 with ⟨⟨xs,hq⟩,q⟩ | ⟨⟨xs,hq⟩,q⟩
 ·obtain ⟨its,rv,p,hz⟩:=I1.list hq
  refine wpAny_pyIter_list p.isList ?_
  exact ⟨s1.heap.objs.size,[s1.heap.objs.size],_,_,H1,rfl,I1.kept (t':=s1.toks) fun b o e=>Heap.get?_push_of_some _ e,y7c a _,⟨_,Heap.get?_push_size _ rfl,rfl,rfl⟩,fp,q⟩
 ·obtain ⟨its,rv,p,hz⟩:=I1.tuple hq
  refine wpAny_pyIter_tuple (show s1.heap.IsTuple a its.toArray from p) ?_
  exact ⟨s1.heap.objs.size,[s1.heap.objs.size],_,_,H1,rfl,I1.kept (t':=s1.toks) fun b o e=>Heap.get?_push_of_some _ e,y4i a _,⟨_,Heap.get?_push_size _ rfl,rfl,rfl⟩,fp,q⟩
def y7k : D->Option (List D)
 | .lst ds=>some ds
 | .tup ds=>some ds
 | .scr ns=>some (ns.map .int)
 | _=>none
def z5F (f : DE) : DS->Option (List D):=fun δ=>(f δ).bind y7k
theorem y8F {K : aa} {H : Hp} {B : Addr->Prop} {a : Addr} {xs : List V} {ds : List D} (n : ¬ B a) (h : H a=some (.lst xs)) (r : Reps K H B ds xs) : ItD K (Itl K a) H B ds:=by
 have hl:=r.length
 refine ⟨fun i H' kp hi=>?_,fun i H' kp hi=>?_,fun i H' x H2 kp y=>?_⟩
 ·exact ⟨xs,xs[i],SqL.of (kp.sl a xs n h),by rw [av]⟩
 ·exact ⟨xs,SqL.of (kp.sl a xs n h),by omega⟩
 ·obtain ⟨e,y⟩:=y
  subst e
  have hx:=y xs (SqL.of (kp.sl a xs n h))
  obtain ⟨d,e,rd⟩:=(Reps.keep kp ds r).get' hx
  exact ⟨.refl _,d,fun _=>e,rd⟩
theorem itd_tup {K : aa} {H : Hp} {B : Addr->Prop} {a : Addr} {xs : List V} {ds : List D} (h : SqT K H a xs) (r : Reps K H B ds xs) : ItD K (Itt K a) H B ds:=by
 have hl:=r.length
 refine ⟨fun i H' kp hi=>?_,fun i H' kp hi=>?_,fun i H' x H2 kp y=>?_⟩
 ·exact ⟨xs,xs[i],kp.st a xs h,by rw [av]⟩
 ·exact ⟨xs,kp.st a xs h,by omega⟩
 ·obtain ⟨e,y⟩:=y
  subst e
  have hx:=y xs (kp.st a xs h)
  obtain ⟨d,e,rd⟩:=(Reps.keep kp ds r).get' hx
  exact ⟨.refl _,d,fun _=>e,rd⟩
theorem z3x {K : aa} {H : Hp} {B : Addr->Prop} : ∀ ns : List Int,Reps K H B (ns.map D.int) (ns.map V.int)
 | []=>.nil
 | n :: ns=>.cons rfl (z3x ns)
theorem itd_scr {K : aa} {H : Hp} {B : Addr->Prop} {a : Addr} {ns : List Int} (h : SqF K H a (ns.map V.int)) : ItD K (Itl K a) H B (ns.map D.int):=by
 have r : ∀ H',Reps K H' B (ns.map D.int) (ns.map V.int):=fun _=>z3x ns
 refine ⟨fun i H' kp hi=>?_,fun i H' kp hi=>?_,fun i H' x H2 kp y=>?_⟩
 ·exact ⟨ns.map V.int,(ns.map V.int)[i]'(by simpa using hi),(kp.sf a _ h).sq,by rw [av]⟩
 ·exact ⟨ns.map V.int,(kp.sf a _ h).sq,by simpa using hi⟩
 ·obtain ⟨e,y⟩:=y
  subst e
  have hx:=y _ (kp.sf a _ h).sq
  obtain ⟨d,e,rd⟩:=(r _).get' hx
  exact ⟨.refl _,d,fun _=>e,rd⟩
theorem z0N {l : Expr} {f : DE} (h : PD X l f) : PID X tg l (z5F f):=(pi_seq h).imp fun σ H R ⟨B,δ,ds,hB,S,q,k⟩=>by
 unfold z5F at q
 cases e : f δ with
 | none=>rw [e] at q; cases q
 | some d=>
  rw [e] at q
  have q' : y7k d=some ds:=q
  refine ⟨B,δ,d,hB,S,e,fun v H1 s1 r1=>?_⟩
  unfold y7k at q'
  split at q'
  ·cases q'
   unfold Rep at r1
   obtain ⟨a,xs,rfl,n,h,r⟩:=r1
   exact ⟨a,rfl,.inl ⟨⟨xs,SqL.of h⟩,k _ H1 s1 fun C hC=>y8F (fun z=>z.elim n fun z=>by rw [hC a z] at h; cases h) h (Reps.wide hC _ r)⟩⟩
  ·cases q'
   unfold Rep at r1
   obtain ⟨a,xs,rfl,h,r⟩:=r1
   exact ⟨a,rfl,.inr ⟨⟨xs,h⟩,k _ H1 s1 fun C hC=>itd_tup h (Reps.wide hC _ r)⟩⟩
  ·cases q'
   unfold Rep at r1
   obtain ⟨a,rfl,h⟩:=r1
   exact ⟨a,rfl,.inl ⟨⟨_,h.sq⟩,k _ H1 s1 fun C hC=>itd_scr h⟩⟩
  ·cases q'
def z7n (lo : Int) (n : Nat) : List D:=(ah n).map fun i=>.int (lo + (i : Nat))
theorem y7U {lo : Int} {n i : Nat} (h : i < n) : (z7n lo n)[i]? = some (.int (lo + i)):=by
 unfold z7n
 rw [aN,cS h]
 rfl
theorem z5f (lo : Int) (n : Nat) : (z7n lo n).length=n:=by unfold z7n; rw [aq,bE]
theorem y7l {K : aa} {H : Hp} {B : Addr->Prop} {lo : Int} {n : Nat} : ItD K (Itr lo n) H B (z7n lo n):=by
 refine ⟨fun i H' _ hi=>?_,fun i H' _ hi=>?_,fun i H' x H2 _ y=>?_⟩
 ·rw [z5f] at hi; exact hi
 ·rw [z5f] at hi; exact hi
 ·obtain ⟨e,y⟩:=y
  subst e y
  exact ⟨.refl _,.int (lo + i),fun h=>y7U (by rwa [z5f] at h),rfl⟩
def z2G (f : DE) : DS->Option (List D):=fun δ=>match f δ with
 | some (.int j)=>if -(2 ^ 62)≤j∧j < 2 ^ 62 then some (z7n 0 j.toNat) else none
 | _=>none
def y8s (f g : DE) : DS->Option (List D):=fun δ=>match f δ,g δ with
 | some (.int i),some (.int j)=>if -(2 ^ 62)≤i∧i < 2 ^ 62∧-(2 ^ 62)≤j∧j < 2 ^ 62 then some (z7n i (j - i).toNat) else none
 | _,_=>none
theorem z2c {f : DE} (hg : Gl X "range") (hm : X.mg "range" = none) (ha : PD X a f) (hs : starEach [a] X.env=[(false,eval a X.env)]:=by rfl) : PID X tg (.Call (.Name "range" p) [a] [] pos) (z2G f):=
 (y4r hg hm (z0a ha z0e hs) hs).imp fun σ H R ⟨B,δ,ds,hB,S,q,k⟩=>by
  unfold z2G at q
  split at q
  ·rename_i j e
   split at q
   ·rename_i hj
    cases q
    have ea : z0o [f] δ=some [.int j]:=by unfold z0o; rw [e]; rfl
    refine ⟨B,δ,[.int j],hB,S,ea,fun vs H1 s1 r1=>?_⟩
    unfold Reps at r1
    obtain ⟨x,r,rfl,rx,rr⟩:=r1
    unfold Reps at rr
    subst rr
    exact ⟨j,by rw [show x=V.int j from rx],hj.1,hj.2,k _ H1 s1 fun C _=>y7l⟩
   ·cases q
  ·cases q
theorem pi_rng2 {f g : DE} (hg : Gl X "range") (hm : X.mg "range" = none) (ha : PD X a f) (hb : PD X b g) (hs : starEach [a,b] X.env=[(false,eval a X.env),(false,eval b X.env)]:=by rfl) (hs2 : starEach [b] X.env=[(false,eval b X.env)]:=by rfl) :
  PID X tg (.Call (.Name "range" p) [a,b] [] pos) (y8s f g):=
 (y5M hg hm (z0a ha (z0a hb z0e hs2) (by rw [hs,hs2])) hs hs2).imp fun σ H R ⟨B,δ,ds,hB,S,q,k⟩=>by
  unfold y8s at q
  split at q
  ·rename_i i j e e'
   split at q
   ·rename_i hj
    cases q
    have ea : z0o [f,g] δ=some [.int i,.int j]:=by unfold z0o z0o; rw [e,e']; rfl
    refine ⟨B,δ,[.int i,.int j],hB,S,ea,fun vs H1 s1 r1=>?_⟩
    unfold Reps at r1
    obtain ⟨x,r,rfl,rx,rr⟩:=r1
    unfold Reps at rr
    obtain ⟨y,r',rfl,ry,rr⟩:=rr
    unfold Reps at rr
    subst rr
    exact ⟨i,j,by rw [show x=V.int i from rx,show y=V.int j from ry],hj,k _ H1 s1 fun C _=>y7l⟩
   ·cases q
  ·cases q
def y7X : Option D->List D->List D
 | some y,ys=>y :: ys
 | none,ys=>ys
def z1Z (h : D->Option (Option D)) : List D->Option (List D)
 | []=>some []
 | x :: r=>(h x).bind fun o=>(z1Z h r).bind fun ys=>some (y7X o ys)
theorem z5V {h : D->Option (Option D)} {x : D} {r ds : List D} (e : z1Z h (x :: r)=some ds) : ∃ o ys,h x=some o∧z1Z h r=some ys∧ds=y7X o ys:=by
 unfold z1Z at e
 cases q : h x with
 | none=>rw [q] at e; cases e
 | some o=>
  rw [q] at e
  have e' : ((z1Z h r).bind fun ys=>some (y7X o ys))=some ds:=e
  cases q' : z1Z h r with
  | none=>rw [q'] at e'; cases e'
  | some ys=>
   rw [q'] at e'
   exact ⟨o,ys,rfl,rfl,(Option.some.inj e').symm⟩
def z1U (fi : DS->Option (List D)) (fc : DS->Option Bool) (fe : DE) : DS->Option (List D):=fun δ=>(fi δ).bind fun xs=>if xs.length≤sizeLine then
 z1Z (fun x=>(fc (δ ++ [some x])).bind fun k=>if k=true then (fe (δ ++ [some x])).map some else some none) xs else none
def z5p : DS->Option Bool:=fun _=>some true
theorem z1B {X : Cx} : y3Q X [] (tT X.K z5p):=fun pins s σ H Q I ⟨B,δ,b,hB,S,q,k⟩=>y8A pins s σ H Q I (by cases q; exact k H (.refl H))
theorem z1E {X : Cx} {c : Expr} {f : DS->Option Bool} (h : PTD X c f) : y3Q X [c] (tT X.K f):=y8K h
theorem RepS.snoc {K : aa} {H : Hp} {B : Addr->Prop} {σ : St} {δ : DS} {d : D} {v : V} (S : RepS K H B σ δ) (r : Rep K H B d v) : RepS K H B (σ ++ [some v]) (δ ++ [some d]):=by
 refine ⟨by simp [S.len],fun i d' e=>?_⟩
 by_cases hi : i < δ.length
 ·rw [aY hi] at e
  obtain ⟨w,e',r'⟩:=S.get i d' e
  exact ⟨w,by rw [aY (by rw [← S.len]; exact hi)]; exact e',r'⟩
 ·by_cases hj : i=δ.length
  ·subst hj
   rw [be (ar _),Nat.sub_self] at e
   cases e
   refine ⟨v,?_,r⟩
   rw [S.len,be (ar _),Nat.sub_self]
   rfl
  ·rw [bY (by simp; omega)] at e
   cases e
theorem RepS.wide {K : aa} {H : Hp} {B C : Addr->Prop} {σ : St} {δ : DS} (h : RepS K H B σ δ) (hc : ∀ a,C a->H a=none) : RepS K H (fun a=>B a∨C a) σ δ:=
 ⟨h.len,fun i d q=>let ⟨v,a,r⟩:=h.get i d q; ⟨v,a,Rep.wide hc d r⟩⟩
theorem z6u {w v : Option V} : ∀ {σ : St},(σ ++ [w]).set σ.length v=σ ++ [v]
 | []=>rfl
 | x :: r=>congrArg (x :: ·) (z6u (σ:=r))
variable {N' : List Str} {sc : Scope} {ifs : List Expr} {n : Nat} {px : Pos} {fi : DS->Option (List D)} {fc : DS->Option Bool} {fe : DE}
theorem y2I {σ : St} {H : Hp} {Q : VK} (hσ : σ.length=n) (hq : tF X.K (z1U fi fc fe) σ H Q) : y3H (tI X.K fi) (z2Z n) (tT X.K fc) (tD X.K fe) 1 σ H Q:=by
 obtain ⟨B,δ,ds,hB,Sδ,q,k⟩:=hq
 unfold z1U at q
 cases e1 : fi δ with
 | none=>rw [e1] at q; cases q
 | some xs=>
 rw [e1] at q
 have q1 : (if xs.length≤sizeLine then z1Z (fun x=>(fc (δ ++ [some x])).bind fun k=>if k=true then (fe (δ ++ [some x])).map some else some none) xs else none)=some ds:=q
 split at q1
 case isFalse=>cases q1
 case isTrue hsz=>
 refine ⟨B,δ,xs,hB,Sδ,e1,fun J H1 s1 itw=>fun Da hD=>?_⟩
 have hD0 : H Da=none:=s1.free hD
 have it:=itw (fun a=>a=Da) fun a ha=>by rw [ha]; exact hD
 have Sw : RepS X.K H1 (fun a=>B a∨a=Da) σ δ:=(Sδ.mono s1).wide fun a ha=>by rw [ha]; exact hD
 refine ⟨fun i m σ' H'=>m=xs.length - i∧i≤xs.length∧(∃ w,σ'=σ ++ [w])∧Same H1 H'∧∃ ys dn rs,H' Da=some (.lst ys)∧Reps X.K H' (fun a=>B a∨a=Da) dn ys∧ds=dn ++ rs∧dn.length≤i ∧
  z1Z (fun x=>(fc (δ ++ [some x])).bind fun k=>if k=true then (fe (δ ++ [some x])).map some else some none) (xs.drop i)=some rs,
  ⟨xs.length,by simp,bu _,⟨none,rfl⟩,z0t hD,[],[],ds,z0s,.nil,rfl,ar _,q1⟩,?_⟩
 rintro i m σ' H' ⟨rfl,hi',⟨w,rfl⟩,sm,ys,dn,rs,hys,rys,hds,hln,hrs⟩
 have kp : Keep X.K (fun a=>B a∨a=Da) H1 H':=.same sm
 by_cases hlt : i < xs.length
 ·refine .inr ⟨it.go i H' kp hlt,fun σ'' H''=>(i + 1≤xs.length∧(∃ w,σ''=σ ++ [w])∧Same H1 H''∧∃ ys dn rs,H'' Da=some (.lst ys)∧Reps X.K H'' (fun a=>B a∨a=Da) dn ys∧ds=dn ++ rs∧dn.length≤i + 1 ∧
   z1Z (fun x=>(fc (δ ++ [some x])).bind fun k=>if k=true then (fe (δ ++ [some x])).map some else some none) (xs.drop (i + 1))=some rs),fun σ'' H'' h=>⟨xs.length - (i + 1),by omega,rfl,h⟩,fun xv H2 hy=>?_⟩
  obtain ⟨s2,d,hd,rd⟩:=it.yld i H' xv H2 kp hy
  have hdi:=hd hlt
  have hx : xs.drop i=d :: xs.drop (i + 1):=by
   obtain ⟨hl,e⟩:=aU.mp hdi
   rw [bn hl,e]
  rw [hx] at hrs
  obtain ⟨o,rs',e2,e3,e4⟩:=z5V hrs
  show tT X.K fc ((σ ++ [w]).set n (some xv)) H2 _
  rw [← hσ,z6u]
  have hB1 : InB (fun a=>B a∨a=Da) H2:=fun a ha=>ha.elim (fun z=>(((hB.mono s1).mono sm).mono s2) a z) fun z=>⟨_,s2 _ _ (z ▸ hys)⟩
  have S2 : RepS X.K H2 (fun a=>B a∨a=Da) (σ ++ [some xv]) (δ ++ [some d]):=((Sw.mono sm).mono s2).snoc rd
  have hl2 : ys.length < sizeLine:=by
   have:=rys.length
   omega
  cases ec : fc (δ ++ [some d]) with
  | none=>rw [ec] at e2; cases e2
  | some kk=>
   rw [ec] at e2
   have e2' : (if kk=true then (fe (δ ++ [some d])).map some else some none)=some o:=e2
   refine ⟨_,δ ++ [some d],kk,hB1,S2,ec,fun H3 s3=>?_⟩
   cases kk with
   | false=>
    rw [if_neg ax] at e2'
    rw [if_neg ax]
    cases e2'
    exact ⟨hlt,⟨_,rfl⟩,(sm.trans s2).trans s3,ys,dn,rs',s3 _ _ (s2 _ _ hys),(rys.mono s2).mono s3,by rw [hds,e4]; rfl,dg hln,e3⟩
   | true=>
    rw [if_pos rfl] at e2'
    rw [if_pos rfl]
    cases ey : fe (δ ++ [some d]) with
    | none=>rw [ey] at e2'; cases e2'
    | some y=>
     rw [ey] at e2'
     cases e2'
     refine ⟨_,δ ++ [some d],y,hB1.mono s3,S2.mono s3,ey,fun yv H5 s5 r5=>⟨ys,s5 _ _ (s3 _ _ (s2 _ _ hys)),hl2,?_⟩⟩
     have hu : H5 Da=some (.lst ys):=s5 _ _ (s3 _ _ (s2 _ _ hys))
     refine ⟨hlt,⟨_,rfl⟩,fun b u hb=>?_,ys ++ [yv],dn ++ [y],rs',z0s,?_,by rw [hds,e4,aL]; rfl,by rw [aH]; simp; omega,e3⟩
     ·rw [z0A (z1s hb hD)]
      exact s5 _ _ (s3 _ _ (s2 _ _ (sm _ _ hb)))
     ·exact Reps.keep (.upd (.inr rfl) (by rw [hu]; exact trivial)) _ (((rys.mono s2).mono s3 |>.mono s5).snoc r5)
 ·have e : i=xs.length:=by omega
  subst e
  refine .inl ⟨it.stop _ H' kp (ar _),?_⟩
  rw [cb] at hrs
  cases hrs
  rw [aG] at hds
  subst hds
  exact k Da ys H' (s1.trans sm) hD0 hys (rys.anti fun a z=>.inl z)
theorem z3Z (hc : X.calm=true) (S : CompScope X.N X.env.scope.names N' 1 sc) (hn : n=X.N.length) (hi : PID X (.Name x px) iter fi)
  (hg : ∀ s H fp pins E,PG (z0w X N' sc s H fp pins E) (.Name x px) (z2Z n)) (ht : ∀ s H fp pins E,y3Q (z0w X N' sc s H fp pins E) ifs (tT X.K fc)) (he : ∀ s H fp pins E,PE (z0w X N' sc s H fp pins E) elt (tD X.K fe))
  (hs : ∀ x,foldedSetIterable iter X.env x=pure x:=by intro _; rfl) : PF X (.ListComp elt [⟨.Name x px,iter,ifs,0⟩] sc pos) (z1U fi fc fe):=by
 intro pins s σ H Q I hq
 exact y1d hc S hi ⟨hg,ht,he⟩ hs pins s σ H Q I (y2I (by rw [hn,I.len]) hq)
theorem y5o {i : Nat} {y : Str} {py spos : Pos} (hN : X.N.Nodup) (hy : X.N[i]? = some y) (hyl : X.env.scope.names.lookup y=some .local) (hc : X.calm=true) (S : CompScope X.N X.env.scope.names N' 1 sc) (hn : n=X.N.length) (hi : PID X (.Name x px) iter fi)
  (hg : ∀ s H fp pins E,PG (z0w X N' sc s H fp pins E) (.Name x px) (z2Z n)) (ht : ∀ s H fp pins E,y3Q (z0w X N' sc s H fp pins E) ifs (tT X.K fc)) (he : ∀ s H fp pins E,PE (z0w X N' sc s H fp pins E) elt (tD X.K fe))
  (hsw : swapsWith (.ListComp elt [⟨.Name x px,iter,ifs,0⟩] sc pos) (some (.Name y py)) spos.line X.env=pure true:=by rfl) (hs : ∀ x,foldedSetIterable iter X.env x=pure x:=by intro _; rfl) :
  PS X (.Assign [.Name y py] (.ListComp elt [⟨.Name x px,iter,ifs,0⟩] sc pos) spos) (tAsg (tF X.K (z1U fi fc fe)) (z2Z i)):=by
 intro pins s σ H D I hq
 exact y6T hc S hN hy hyl hi ⟨hg,ht,he⟩ hsw hs pins s σ H D I (y2I (by rw [hn,I.len]) hq)
end
end L2
namespace L2
open PySem PySem.Spec PyProof.Rows
inductive SD where
 | sh (d : D) | ow (d : D) | bo (r : Nat) (d : D)
abbrev SS:=List (Option SD)
def SD.val : SD->D
 | .sh d=>d
 | .ow d=>d
 | .bo _ d=>d
def z0v (δ : SS) : DS:=δ.map (Option.map SD.val)
def shO : Option SD->Option D
 | some (.sh d)=>some d
 | _=>none
def shV (δ : SS) : DS:=δ.map shO
structure RS (K : aa) (H0 : Hp) (B0 : Addr->Prop) (H : Hp) (σ : St) (δ : SS) (R : Nat->List Addr) : Prop where
 keep : Same H0 H
 inB : InB B0 H0
 len : δ.length=σ.length
 new : ∀ r a,a∈R r->H0 a=none
 held : ∀ r a,a∈R r->∃ o,H a=some o∧Mut (some o)
 disj : ∀ r s a,a∈R r->a∈R s->r=s
 sh : ∀ (i : Nat) (d : D),δ[i]? = some (some (.sh d))->∃ v,σ[i]? = some (some v)∧Rep K H (fun a=>B0 a∨∃ r,a∈R r) d v
 bo : ∀ (i r : Nat) (d : D),δ[i]? = some (some (.bo r d))->∃ v,σ[i]? = some (some v)∧Rep K H (fun a=>B0 a∨∃ s,s≠r∧a∈R s) d v
 ow : ∀ (i : Nat) (d : D),δ[i]? = some (some (.ow d))->∃ v,σ[i]? = some (some v)∧Tree K H d v (R i)∧(R i).Nodup
structure Stp (R : Nat->List Addr) (H : Hp) (R' : Nat->List Addr) (H' : Hp) : Prop where
 keep : ∀ a o,H a=some o->(∀ r,a ∉ R r)->H' a=some o
 from' : ∀ r a,a∈R' r->(∃ s,a∈R s)∨H a=none
 there : ∀ a,H' a=none->H a=none
theorem Stp.refl (R : Nat->List Addr) (H : Hp) : Stp R H R H:=⟨fun _ _ h _=>h,fun r _ h=>.inl ⟨r,h⟩,fun _ h=>h⟩
theorem Stp.trans {R R1 R2 : Nat->List Addr} {H H1 H2 : Hp} (a : Stp R H R1 H1) (b : Stp R1 H1 R2 H2) : Stp R H R2 H2:=by
 refine ⟨fun x o h n=>b.keep x o (a.keep x o h n) fun r hr=>?_,fun r x h=>?_,fun x h=>a.there x (b.there x h)⟩
 ·rcases a.from' r x hr with ⟨s,z⟩ | z
  ·exact n s z
  ·rw [h] at z; cases z
 ·rcases b.from' r x h with ⟨s,z⟩ | z
  ·exact a.from' s x z
  ·exact .inr (a.there x z)
theorem Stp.same {R : Nat->List Addr} {H H' : Hp} (e : Same H H') : Stp R H R H':=⟨fun a o h _=>e a o h,fun r _ h=>.inl ⟨r,h⟩,fun _ h=>e.free h⟩
section
variable {K : aa} {H0 H H' : Hp} {B0 : Addr->Prop} {σ : St} {δ : SS} {R : Nat->List Addr}
theorem y8q {i : Nat} {d : D} (h : (z0v δ)[i]? = some (some d)) : ∃ x,δ[i]? = some (some x)∧x.val=d:=by
 unfold z0v at h
 rw [aN] at h
 cases e : δ[i]? with
 | none=>rw [e] at h; cases h
 | some o=>
  rw [e] at h
  cases o with
  | none=>cases h
  | some x=>cases h; exact ⟨x,rfl,rfl⟩
theorem shV_get {i : Nat} {d : D} (h : (shV δ)[i]? = some (some d)) : δ[i]? = some (some (.sh d)):=by
 unfold shV at h
 rw [aN] at h
 cases e : δ[i]? with
 | none=>rw [e] at h; cases h
 | some o=>
  rw [e] at h
  have h' : shO o=some d:=Option.some.inj h
  unfold shO at h'
  split at h'
  ·cases h'; rfl
  ·cases h'
theorem RS.all (h : RS K H0 B0 H σ δ R) : RepS K H noB σ (z0v δ):=by
 refine ⟨by unfold z0v; rw [aq]; exact h.len,fun i d e=>?_⟩
 obtain ⟨x,e',rfl⟩:=y8q e
 cases x with
 | sh d=>
  obtain ⟨v,e1,r⟩:=h.sh i d e'
  exact ⟨v,e1,r.anti fun _ z=>z.elim⟩
 | bo r d=>
  obtain ⟨v,e1,r⟩:=h.bo i r d e'
  exact ⟨v,e1,r.anti fun _ z=>z.elim⟩
 | ow d=>
  obtain ⟨v,e1,t,_⟩:=h.ow i d e'
  exact ⟨v,e1,t.rep d fun _ _ z=>z.elim⟩
theorem RS.shr (h : RS K H0 B0 H σ δ R) : RepS K H (fun a=>B0 a∨∃ r,a∈R r) σ (shV δ):=by
 refine ⟨by unfold shV; rw [aq]; exact h.len,fun i d e=>h.sh i d (shV_get e)⟩
theorem RS.inAll (h : RS K H0 B0 H σ δ R) : InB (fun a=>B0 a∨∃ r,a∈R r) H:=fun a ha=>by
 rcases ha with z | ⟨r,z⟩
 ·exact (h.inB.mono h.keep) a z
 ·obtain ⟨o,e,_⟩:=h.held r a z
  exact ⟨o,e⟩
theorem RS.mono (h : RS K H0 B0 H σ δ R) (e : Same H H') : RS K H0 B0 H' σ δ R:=by
 refine ⟨h.keep.trans e,h.inB,h.len,h.new,fun r a z=>?_,h.disj,fun i d z=>?_,fun i r d z=>?_,fun i d z=>?_⟩
 ·obtain ⟨o,e1,m⟩:=h.held r a z
  exact ⟨o,e a o e1,m⟩
 ·obtain ⟨v,e1,r⟩:=h.sh i d z
  exact ⟨v,e1,r.mono e⟩
 ·obtain ⟨v,e1,r⟩:=h.bo i r d z
  exact ⟨v,e1,r.mono e⟩
 ·obtain ⟨v,e1,t,nd⟩:=h.ow i d z
  exact ⟨v,e1,t.mono e,nd⟩
theorem RS.setSh {i : Nat} {d : D} {v : V} (h : RS K H0 B0 H σ δ R) (r : Rep K H (fun a=>B0 a∨∃ r,a∈R r) d v) : RS K H0 B0 H (σ.set i (some v)) (δ.set i (some (.sh d))) R:=by
 have gs : ∀ {α : Type} {l : List (Option α)} {i j : Nat} {x : Option α} {y : α},(l.set i x)[j]? = some (some y)->(j=i∧x=some y)∨(j≠i∧l[j]? = some (some y)):=fun {α l i j x y} e=>by
  by_cases hj : j=i
  ·subst hj
   rw [bL] at e
   simp only [if_true] at e
   split at e
   ·exact .inl ⟨rfl,Option.some.inj e⟩
   ·cases e
  ·rw [aV (Ne.symm hj)] at e
   exact .inr ⟨hj,e⟩
 have up : ∀ {j : Nat} {w : V},j≠i->σ[j]? = some (some w)->(σ.set i (some v))[j]? = some (some w):=fun hj e=>by rw [aV (Ne.symm hj)]; exact e
 refine ⟨h.keep,h.inB,by simp [h.len],h.new,h.held,h.disj,fun j d' z=>?_,fun j r' d' z=>?_,fun j d' z=>?_⟩
 ·rcases gs z with ⟨rfl,q⟩ | ⟨hj,q⟩
  ·cases q
   have hl : j < σ.length:=by
    rw [← h.len]
    by_cases hl : j < δ.length
    ·exact hl
    ·rw [bY (by simp; omega)] at z; cases z
   exact ⟨v,by rw [bL]; simp [hl],r⟩
  ·obtain ⟨w,e1,r⟩:=h.sh j d' q
   exact ⟨w,up hj e1,r⟩
 ·rcases gs z with ⟨rfl,q⟩ | ⟨hj,q⟩
  ·cases q
  ·obtain ⟨w,e1,r⟩:=h.bo j r' d' q
   exact ⟨w,up hj e1,r⟩
 ·rcases gs z with ⟨rfl,q⟩ | ⟨hj,q⟩
  ·cases q
  ·obtain ⟨w,e1,t⟩:=h.ow j d' q
   exact ⟨w,up hj e1,t⟩
def z9h (R : Nat->List Addr) (i : Nat) (A : List Addr) : Nat->List Addr:=fun r=>if r=i then A else R r
theorem z0V {i : Nat} {A : List Addr} : z9h R i A i=A:=if_pos rfl
theorem z1H {i r : Nat} {A : List Addr} (h : r≠i) : z9h R i A r=R r:=if_neg h
theorem z2D {α : Type} {l : List (Option α)} {i j : Nat} {x : Option α} {y : α} (e : (l.set i x)[j]? = some (some y)) : (j=i∧x=some y∧i < l.length)∨(j≠i∧l[j]? = some (some y)):=by
 by_cases hj : j=i
 ·subst hj
  rw [bL] at e
  simp only [if_true] at e
  split at e
  ·rename_i hl
   exact .inl ⟨rfl,Option.some.inj e,hl⟩
  ·cases e
 ·rw [aV (Ne.symm hj)] at e
  exact .inr ⟨hj,e⟩
theorem RS.setOw {Hold : Hp} {i : Nat} {d : D} {v : V} {A : List Addr} (h : RS K H0 B0 Hold σ δ R) (e : Same Hold H) (t : Tree K H d v A) (nd : A.Nodup) (fr : ∀ a∈A,Hold a=none) : RS K H0 B0 H (σ.set i (some v)) (δ.set i (some (.ow d))) (z9h R i A):=by
 have hm:=h.mono e
 have up : ∀ {j : Nat} {w : V},j≠i->σ[j]? = some (some w)->(σ.set i (some v))[j]? = some (some w):=fun hj e=>by rw [aV (Ne.symm hj)]; exact e
 have hA : ∀ r a,a∈R r->a ∉ A:=fun r a z z'=>by
  obtain ⟨o,q,_⟩:=h.held r a z
  rw [fr a z'] at q; cases q
 have mem : ∀ r a,a∈z9h R i A r->(r=i∧a∈A)∨(r≠i∧a∈R r):=fun r a z=>by
  by_cases hr : r=i
  ·subst hr; rw [z0V] at z; exact .inl ⟨rfl,z⟩
  ·rw [z1H hr] at z; exact .inr ⟨hr,z⟩
 refine ⟨hm.keep,h.inB,by simp [h.len],fun r a z=>?_,fun r a z=>?_,fun r s a z z'=>?_,fun j d' z=>?_,fun j r' d' z=>?_,fun j d' z=>?_⟩
 ·rcases mem r a z with ⟨_,z⟩ | ⟨_,z⟩
  ·exact h.keep.free (fr a z)
  ·exact h.new r a z
 ·rcases mem r a z with ⟨_,z⟩ | ⟨_,z⟩
  ·exact t.held d a z
  ·exact hm.held r a z
 ·rcases mem r a z with ⟨h1,z⟩ | ⟨h1,z⟩ <;> rcases mem s a z' with ⟨h2,z'⟩ | ⟨h2,z'⟩
  ·rw [h1,h2]
  ·exact absurd z (hA s a z')
  ·exact absurd z' (hA r a z)
  ·exact h.disj r s a z z'
 ·rcases z2D z with ⟨rfl,q,_⟩ | ⟨hj,q⟩
  ·cases q
  ·obtain ⟨w,e1,r⟩:=h.sh j d' q
   refine ⟨w,up hj e1,Rep.anti ?_ d' ((Rep.wide (C:=fun a=>a∈A) fr d' r).mono e)⟩
   rintro a (z | ⟨r,z⟩)
   ·exact .inl (.inl z)
   ·rcases mem r a z with ⟨_,z⟩ | ⟨_,z⟩
    ·exact .inr z
    ·exact .inl (.inr ⟨r,z⟩)
 ·rcases z2D z with ⟨rfl,q,_⟩ | ⟨hj,q⟩
  ·cases q
  ·obtain ⟨w,e1,r⟩:=h.bo j r' d' q
   refine ⟨w,up hj e1,Rep.anti ?_ d' ((Rep.wide (C:=fun a=>a∈A) fr d' r).mono e)⟩
   rintro a (z | ⟨s,hs,z⟩)
   ·exact .inl (.inl z)
   ·rcases mem s a z with ⟨_,z⟩ | ⟨_,z⟩
    ·exact .inr z
    ·exact .inl (.inr ⟨s,hs,z⟩)
 ·rcases z2D z with ⟨rfl,q,hl⟩ | ⟨hj,q⟩
  ·cases q
   rw [z0V]
   exact ⟨v,by rw [bL]; simp [← h.len,hl],t,nd⟩
  ·obtain ⟨w,e1,t'⟩:=hm.ow j d' q
   rw [z1H hj]
   exact ⟨w,up hj e1,t'⟩
def y7L (i : Nat) (δ : SS) : SS:=match δ[i]? with
 | some (some (.ow d))=>δ.set i (some (.sh d))
 | _=>δ
theorem RS.frz (i : Nat) (h : RS K H0 B0 H σ δ R) : ∃ R',RS K H0 B0 H σ (y7L i δ) R'∧∀ r a,a∈R' r->a∈R r:=by
 unfold y7L
 split
 ·rename_i d e
  obtain ⟨v,e1,t,nd⟩:=h.ow i d e
  refine ⟨z9h R i [],?_,fun r a z=>?_⟩
  ·have mem : ∀ r a,a∈z9h R i [] r->r≠i∧a∈R r:=fun r a z=>by
    by_cases hr : r=i
    ·subst hr; rw [z0V] at z; cases z
    ·rw [z1H hr] at z; exact ⟨hr,z⟩
   refine ⟨h.keep,h.inB,by simp [h.len],fun r a z=>h.new r a (mem r a z).2,fun r a z=>h.held r a (mem r a z).2,fun r s a z z'=>h.disj r s a (mem r a z).2 (mem s a z').2,fun j d' z=>?_,fun j r' d' z=>?_,fun j d' z=>?_⟩
   ·rcases z2D z with ⟨rfl,q,hl⟩ | ⟨hj,q⟩
    ·cases q
     refine ⟨v,e1,t.rep d fun a ha=>?_⟩
     rintro (z | ⟨r,z⟩)
     ·obtain ⟨o,q⟩:=h.inB a z
      rw [h.new j a ha] at q; cases q
     ·exact (mem r a z).1 (h.disj r j a (mem r a z).2 ha)
    ·obtain ⟨w,e2,r⟩:=h.sh j d' q
     exact ⟨w,e2,r.anti fun a z=>z.imp id fun ⟨r,z⟩=>⟨r,(mem r a z).2⟩⟩
   ·rcases z2D z with ⟨rfl,q,_⟩ | ⟨hj,q⟩
    ·cases q
    ·obtain ⟨w,e2,r⟩:=h.bo j r' d' q
     exact ⟨w,e2,r.anti fun a z=>z.imp id fun ⟨s,hs,z⟩=>⟨s,hs,(mem s a z).2⟩⟩
   ·rcases z2D z with ⟨rfl,q,_⟩ | ⟨hj,q⟩
    ·cases q
    ·rw [z1H hj]
     exact h.ow j d' q
  ·by_cases hr : r=i
   ·subst hr; rw [z0V] at z; cases z
   ·rw [z1H hr] at z; exact z
 ·exact ⟨R,h,fun _ _ z=>z⟩
end
inductive Out where
 | nx (δ : SS) | bk (δ : SS) | ct (δ : SS) | rt (d : D) | rb (d : D) (δ : SS) | ex (c : Nat) (δ : SS)
abbrev XR:=Nat->St->Hp->Prop
abbrev noX : XR:=fun _ _ _=>False
def Ret (K : aa) (H0 : Hp) (B0 : Addr->Prop) (fr : Bool) (H : Hp) (d : D) (v : V) : Prop:=
 Same H0 H∧(fr=true->∃ A,Tree K H d v A∧A.Nodup∧∀ a∈A,H0 a=none)∧(fr=false->Rep K H B0 d v)
def Aft (K : aa) (H0 : Hp) (B0 : Addr->Prop) (fr : Bool) (RX : XR) (R : Nat->List Addr) (H : Hp) (D : Ends) : Out->Prop
 | .nx δ'=>∀ σ' H' R',RS K H0 B0 H' σ' δ' R'->Stp R H R' H'->D.nx σ' H'
 | .bk δ'=>∀ σ' H' R',RS K H0 B0 H' σ' δ' R'->Stp R H R' H'->D.bk σ' H'
 | .ct δ'=>∀ σ' H' R',RS K H0 B0 H' σ' δ' R'->Stp R H R' H'->D.ct σ' H'
 | .rt d=>∀ v H',Ret K H0 B0 fr H' d v->(∀ a,H' a=none->H a=none)->D.rt v H'
 | .rb d δ'=>∀ v σ' H' R' A2,RS K H0 B0 H' σ' δ' R'->Stp R H R' H'->Tree K H' d v A2->A2.Nodup->(∀ a∈A2,H0 a=none∧∀ r,a ∉ R' r)->D.rt v H'
 | .ex c δ'=>∀ σ' H' R',RS K H0 B0 H' σ' δ' R'->Stp R H R' H'->RX c σ' H'
def tS (K : aa) (H0 : Hp) (B0 : Addr->Prop) (fr : Bool) (RX : XR) (g : SS->Option Out) : TS:=fun D σ H=>∃ δ R o,RS K H0 B0 H σ δ R∧g δ=some o∧Aft K H0 B0 fr RX R H D o
theorem Aft.back {K : aa} {H0 : Hp} {B0 : Addr->Prop} {fr : Bool} {RX : XR} {R R1 : Nat->List Addr} {H H1 : Hp} {D : Ends} {o : Out} (h : Aft K H0 B0 fr RX R H D o) (s : Stp R H R1 H1) : Aft K H0 B0 fr RX R1 H1 D o:=by
 cases o with
 | nx δ'=>exact fun σ' H' R' r t=>h σ' H' R' r (s.trans t)
 | bk δ'=>exact fun σ' H' R' r t=>h σ' H' R' r (s.trans t)
 | ct δ'=>exact fun σ' H' R' r t=>h σ' H' R' r (s.trans t)
 | rt d=>exact fun v H' r t=>h v H' r fun a z=>s.there a (t a z)
 | rb d δ'=>exact fun v σ' H' R' A2 r t=>h v σ' H' R' A2 r (s.trans t)
 | ex c δ'=>exact fun σ' H' R' r t=>h σ' H' R' r (s.trans t)
theorem PS.imp {X : Cx} {st : Stmt} {t t' : TS} (h : PS X st t) (w : ∀ D σ H,t' D σ H->t D σ H) : PS X st t':=fun pins s σ H D I q=>h pins s σ H D I (w D σ H q)
theorem PSs.imp {X : Cx} {st : List Stmt} {t t' : TS} (h : PSs X st t) (w : ∀ D σ H,t' D σ H->t D σ H) : PSs X st t':=fun pins s σ H D I q=>h pins s σ H D I (w D σ H q)
section
variable {X : Cx} {H0 : Hp} {B0 : Addr->Prop} {fr : Bool} {RX : XR} {st : Stmt} {sts : List Stmt} {e : Expr} {pos : Pos}
def z0J (g h : SS->Option Out) : SS->Option Out:=fun δ=>(g δ).bind fun o=>match o with
 | .nx δ'=>h δ'
 | o=>some o
def z1a : SS->Option Out:=fun δ=>some (.nx δ)
theorem z0K : PSs X [] (tS X.K H0 B0 fr RX z1a):=pss_nil.imp fun D σ H ⟨δ,R,o,rs,q,k⟩=>by
 cases q
 exact k σ H R rs (.refl R H)
theorem z0g {g h : SS->Option Out} (h1 : PS X st (tS X.K H0 B0 fr RX g)) (h2 : PSs X sts (tS X.K H0 B0 fr RX h)) : PSs X (st :: sts) (tS X.K H0 B0 fr RX (z0J g h)):=(y8T h1 h2).imp fun D σ H ⟨δ,R,o,rs,q,k⟩=>by
 unfold z0J at q
 cases e : g δ with
 | none=>rw [e] at q; cases q
 | some o1=>
  rw [e] at q
  refine ⟨δ,R,o1,rs,e,?_⟩
  cases o1 with
  | nx δ'=>
   have q' : h δ'=some o:=q
   exact fun σ' H' R' rs' s'=>⟨δ',R',o,rs',q',k.back s'⟩
  | bk δ'=>cases q; exact k
  | ct δ'=>cases q; exact k
  | rt d=>cases q; exact k
  | rb d δ'=>cases q; exact k
  | ex c δ'=>cases q; exact k
theorem z0h {g : SS->Option Out} (h1 : PS X st (tS X.K H0 B0 fr RX g)) : PSs X [st] (tS X.K H0 B0 fr RX g):=pss_one h1
abbrev PAsg (X : Cx) (st : Stmt) (i : Nat) (te : TE) : Prop:=PS X st (tAsg te (z2Z i))
theorem PAsg.imp {i : Nat} {t t' : TE} (h : PAsg X st i t) (w : ∀ σ H Q,t' σ H Q->t σ H Q) : PAsg X st i t':=PS.imp h fun D σ H q=>w σ H _ q
theorem z0P {i : Nat} {x : Str} {te : TE} {pos' : Pos} (hN : X.N.Nodup) (hi : X.N[i]? = some x) (hx : Loc X.env.scope x) (he : PE X e te) (hs : swapsWith e (some (.Name x pos')) pos.line X.env=pure false:=by rfl) (hf : X.fn x=true∨X.env.scope.names.lookup x=some .local:=by first | exact .inl rfl | exact .inr rfl | assumption) :
  PAsg X (.Assign [.Name x pos'] e pos) i te:=ps_set hN hi hx he hs hf
def z5k (i : Nat) (f : DE) : SS->Option Out:=fun δ=>(f (shV δ)).map fun d=>.nx (δ.set i (some (.sh d)))
def z9g (i : Nat) (f : DE) : SS->Option Out:=fun δ=>(f (z0v δ)).bind fun d=>if d.imm=true then some (.nx (δ.set i (some (.sh d)))) else none
def z7z (i : Nat) (f : DE) : SS->Option Out:=fun δ=>(f (z0v δ)).map fun d=>.nx (δ.set i (some (.ow d)))
theorem z1I {i : Nat} {f : DE} (h : PAsg X st i (tD X.K f)) : PS X st (tS X.K H0 B0 fr RX (z5k i f)):=PS.imp h fun D σ H ⟨δ,R,o,rs,q,k⟩=>by
 unfold z5k at q
 cases e : f (shV δ) with
 | none=>rw [e] at q; cases q
 | some d=>
  rw [e] at q
  cases q
  exact ⟨_,shV δ,d,rs.inAll,rs.shr,e,fun v H' s r=>k _ H' R ((rs.mono s).setSh r) (.same s)⟩
theorem z4n {i : Nat} {f : DE} (h : PAsg X st i (tD X.K f)) : PS X st (tS X.K H0 B0 fr RX (z9g i f)):=PS.imp h fun D σ H ⟨δ,R,o,rs,q,k⟩=>by
 unfold z9g at q
 cases e : f (z0v δ) with
 | none=>rw [e] at q; cases q
 | some d=>
  rw [e] at q
  have q' : (if d.imm=true then some (Out.nx (δ.set i (some (.sh d)))) else none)=some o:=q
  split at q'
  ·rename_i hi
   cases q'
   exact ⟨noB,z0v δ,d,.no,rs.all,e,fun v H' s r=>k _ H' R ((rs.mono s).setSh (r.imm d hi)) (.same s)⟩
  ·cases q'
theorem z2E {i : Nat} {f : DE} (h : PAsg X st i (tN X.K f)) : PS X st (tS X.K H0 B0 fr RX (z7z i f)):=PS.imp h fun D σ H ⟨δ,R,o,rs,q,k⟩=>by
 unfold z7z at q
 cases e : f (z0v δ) with
 | none=>rw [e] at q; cases q
 | some d=>
  rw [e] at q
  cases q
  refine ⟨z0v δ,d,rs.all,e,fun v H' A s t nd fr'=>k _ H' (z9h R i A) (rs.setOw s t nd fr') ⟨fun a o h _=>s a o h,fun r a z=>?_,fun a z=>s.free z⟩⟩
  by_cases hr : r=i
  ·subst hr; rw [z0V] at z; exact .inr (fr' a z)
  ·rw [z1H hr] at z; exact .inl ⟨r,z⟩
def z4k (f : DE) : SS->Option Out:=fun δ=>(f (z0v δ)).bind fun d=>if d.imm=true then some (.rt d) else none
def z7u (f : DE) : SS->Option Out:=fun δ=>(f (z0v δ)).map .rt
def z7X (f : DE) : SS->Option Out:=fun δ=>(f (shV δ)).map .rt
def y7M (i : Nat) : SS->Option Out:=fun δ=>match δ[i]? with
 | some (some (.ow d))=>some (.rt d)
 | _=>none
theorem z1m {f : DE} (h : PD X e f) : PS X (.Return (some e) pos) (tS X.K H0 B0 fr RX (z4k f)):=PS.imp (z7d h) fun D σ H ⟨δ,R,o,rs,q,k⟩=>by
 unfold z4k at q
 cases e : f (z0v δ) with
 | none=>rw [e] at q; cases q
 | some d=>
  rw [e] at q
  have q' : (if d.imm=true then some (Out.rt d) else none)=some o:=q
  split at q'
  ·rename_i hi
   cases q'
   exact ⟨noB,z0v δ,d,.no,rs.all,e,fun v H' s r=>k v H' ⟨rs.keep.trans s,fun _=>⟨[],r.immTree d hi,bh,(fun a z=>nomatch z)⟩,fun _=>r.imm d hi⟩ fun a z=>s.free z⟩
  ·cases q'
theorem z2V {f : DE} (h : PN X e f) : PS X (.Return (some e) pos) (tS X.K H0 B0 fr RX (z7u f)):=PS.imp (z7d h) fun D σ H ⟨δ,R,o,rs,q,k⟩=>by
 unfold z7u at q
 cases e : f (z0v δ) with
 | none=>rw [e] at q; cases q
 | some d=>
  rw [e] at q
  cases q
  exact ⟨z0v δ,d,rs.all,e,fun v H' A s t nd fr'=>k v H' ⟨rs.keep.trans s,fun _=>⟨A,t,nd,fun a z=>rs.keep.free (fr' a z)⟩,fun _=>t.rep d fun a z=>rs.inB.fresh (rs.keep.free (fr' a z))⟩ fun a z=>s.free z⟩
theorem z2F {f : DE} (h : PD X e f) : PS X (.Return (some e) pos) (tS X.K H0 B0 false RX (z7X f)):=PS.imp (z7d h) fun D σ H ⟨δ,R,o,rs,q,k⟩=>by
 unfold z7X at q
 cases e : f (shV δ) with
 | none=>rw [e] at q; cases q
 | some d=>
  rw [e] at q
  cases q
  exact ⟨_,shV δ,d,rs.inAll,rs.shr,e,fun v H' s r=>k v H' ⟨rs.keep.trans s,(fun z=>nomatch z),fun _=>r.anti fun a z=>.inl z⟩ fun a z=>s.free z⟩
theorem z8b {i : Nat} (h : PE X e (y3i i)) : PS X (.Return (some e) pos) (tS X.K H0 B0 fr RX (y7M i)):=PS.imp (z7d h) fun D σ H ⟨δ,R,o,rs,q,k⟩=>by
 unfold y7M at q
 split at q
 ·rename_i d e
  cases q
  obtain ⟨v,e1,t,nd⟩:=rs.ow i d e
  exact ⟨v,e1,k v H ⟨rs.keep,fun _=>⟨R i,t,nd,fun a z=>rs.new i a z⟩,fun _=>t.rep d fun a z=>rs.inB.fresh (rs.new i a z)⟩ fun a z=>z⟩
 ·cases q
def ifO (c : DS->Option Bool) (g h : SS->Option Out) : SS->Option Out:=fun δ=>(c (z0v δ)).bind fun b=>if b=true then g δ else h δ
theorem z4H {c : Expr} {a b : List Stmt} {f : DS->Option Bool} {g h : SS->Option Out} (hc : PTD X c f) (ha : PSs X a (tS X.K H0 B0 fr RX g)) (hb : PSs X b (tS X.K H0 B0 fr RX h)) : PS X (.If c a b pos) (tS X.K H0 B0 fr RX (ifO f g h)):=PS.imp (ps_if hc ha hb) fun D σ H ⟨δ,R,o,rs,q,k⟩=>by
 unfold ifO at q
 cases e : f (z0v δ) with
 | none=>rw [e] at q; cases q
 | some b=>
  rw [e] at q
  have q' : (if b=true then g δ else h δ)=some o:=q
  refine ⟨noB,z0v δ,b,.no,rs.all,e,fun H' s=>?_⟩
  cases b with
  | true=>
   rw [if_pos rfl] at q'
   refine iteT ?_
   exact ⟨δ,R,o,rs.mono s,q',k.back (.same s)⟩
  | false=>
   rw [if_neg ax] at q'
   refine iteF ?_
   exact ⟨δ,R,o,rs.mono s,q',k.back (.same s)⟩
def frzO (i : Nat) (g : SS->Option Out) : SS->Option Out:=fun δ=>g (y7L i δ)
theorem y7Y (i : Nat) {g : SS->Option Out} (h : PS X st (tS X.K H0 B0 fr RX g)) : PS X st (tS X.K H0 B0 fr RX (frzO i g)):=PS.imp h fun D σ H ⟨δ,R,o,rs,q,k⟩=>by
 obtain ⟨R',rs',hs⟩:=rs.frz i
 exact ⟨y7L i δ,R',o,rs',q,k.back ⟨fun a o h _=>h,fun r a z=>.inl ⟨r,hs r a z⟩,fun a z=>z⟩⟩
def z9i (i : Nat) (b : SS->Option Out) : List D->SS->Option Out
 | [],δ=>some (.nx δ)
 | x :: r,δ=>(b (δ.set i (some (.sh x)))).bind fun o=>match o with
  | .nx δ'=>z9i i b r δ'
  | .ct δ'=>z9i i b r δ'
  | .bk δ'=>some (.nx δ')
  | .rt d=>some (.rt d)
  | .rb d δ'=>some (.rb d δ')
  | .ex c δ'=>some (.ex c δ')
def z5j (i : Nat) (f : DS->Option (List D)) (b : SS->Option Out) : SS->Option Out:=fun δ=>(f (shV δ)).bind fun ds=>z9i i b ds δ
theorem Stp.keepB {K : aa} {R R' : Nat->List Addr} {H H' : Hp} {B : Addr->Prop} (s : Stp R H R' H') (hR : ∀ r a,a∈R r->B a) (hm : ∀ r a,a∈R r->∃ o,H a=some o∧Mut (some o)) : Keep K B H H':=by
 have kp : ∀ a o,H a=some o->¬ Mut (some o)->H' a=some o:=fun a o e n=>s.keep a o e fun r z=>by
  obtain ⟨o',e',m⟩:=hm r a z
  rw [e] at e'; cases e'
  exact n m
 refine ⟨fun a xs n h=>s.keep a _ h fun r z=>n (hR r a z),fun a xs h=>?_,fun a xs h=>?_,fun a kvs n h=>s.keep a _ h fun r z=>n (hR r a z),fun a φ n h=>s.keep a _ h fun r z=>n (hR r a z),fun a _ _ _ n h=>s.keep a _ h fun r z=>n (hR r a z)⟩
 ·rcases h with (h | ⟨o,h⟩) | h
  ·exact .inl (.inl (kp a _ h fun z=>z))
  ·exact .inl (.inr ⟨o,kp a _ h fun z=>z⟩)
  ·exact .inr h
 ·rcases h with ⟨o,h⟩ | h
  ·exact .inl ⟨o,kp a _ h fun z=>z⟩
  ·exact .inr h
theorem z2H {i : Nat} {x : Str} {px : Pos} {iter : Expr} {body : List Stmt} {f : DS->Option (List D)} {g : SS->Option Out} (hp : PassesOwn (model X.prog X.w) X.A X.env X.xe) (hc : X.calm=true) (hi : PID X (.Name x px) iter f) (hg : PG X (.Name x px) (z2Z i)) (hb : PSs X body (tS X.K H0 B0 fr RX g))
  (hs : ∀ x,foldedSetIterable iter X.env x=pure x:=by intro _; rfl) : PS X (.For (.Name x px) iter body [] pos) (tS X.K H0 B0 fr RX (z5j i f g)):=PS.imp (y9P hp hc hi hg hb hs) fun D σ H ⟨δ,R,o,rs,q,k⟩=>by
 unfold z5j at q
 cases e : f (shV δ) with
 | none=>rw [e] at q; cases q
 | some ds=>
 rw [e] at q
 have q : z9i i g ds δ=some o:=q
 refine ⟨_,shV δ,ds,rs.inAll,rs.shr,e,fun J H1 s1 itw=>?_⟩
 have rs1:=rs.mono s1
 have it:=itw (fun a=>H1 a=none) fun a z=>z
 refine ⟨fun n m σ' H'=>m=ds.length - n∧n≤ds.length∧∃ δ' R',RS X.K H0 B0 H' σ' δ' R'∧Stp R H1 R' H'∧z9i i g (ds.drop n) δ'=some o,⟨ds.length,by simp,bu _,δ,R,rs1,.refl R H1,q⟩,?_⟩
 rintro n m σ' H' ⟨rfl,hn,δ',R',rs',s',q'⟩
 have kp : Keep X.K (fun a=>(B0 a∨∃ r,a∈R r)∨H1 a=none) H1 H':=s'.keepB (fun r a z=>.inl (.inr ⟨r,z⟩)) rs1.held
 by_cases hlt : n < ds.length
 ·have hx : ds.drop n=ds[n] :: ds.drop (n + 1):=bn hlt
  rw [hx] at q'
  unfold z9i at q'
  cases eb : g (δ'.set i (some (.sh ds[n]))) with
  | none=>rw [eb] at q'; cases q'
  | some ob=>
   rw [eb] at q'
   refine .inr ⟨it.go n H' kp hlt,fun σ2 H2=>n + 1≤ds.length∧∃ δ2 R2,RS X.K H0 B0 H2 σ2 δ2 R2∧Stp R H1 R2 H2∧z9i i g (ds.drop (n + 1)) δ2=some o,fun σ2 H2 z=>⟨ds.length - (n + 1),by omega,rfl,z⟩,fun xv H2 hy=>?_⟩
   obtain ⟨s2,d,hd,rd⟩:=it.yld n H' xv H2 kp hy
   have hdi : d=ds[n]:=by
    have:=hd hlt
    rw [av hlt] at this
    exact (Option.some.inj this).symm
   subst hdi
   have rd' : Rep X.K H2 (fun a=>B0 a∨∃ r,a∈R' r) ds[n] xv:=rd.anti fun a z=>by
    rcases z with z | ⟨r,z⟩
    ·exact .inl (.inl z)
    ·rcases s'.from' r a z with z | z
     ·exact .inl (.inr z)
     ·exact .inr z
   have rs2:=(rs'.mono s2).setSh (i:=i) rd'
   have st2 : Stp R H1 R' H2:=s'.trans (.same s2)
   refine ⟨_,R',ob,rs2,eb,?_⟩
   cases ob with
   | nx δ2=>
    have q2 : z9i i g (ds.drop (n + 1)) δ2=some o:=q'
    exact fun σ3 H3 R3 rs3 s3=>⟨hlt,δ2,R3,rs3,st2.trans s3,q2⟩
   | ct δ2=>
    have q2 : z9i i g (ds.drop (n + 1)) δ2=some o:=q'
    exact fun σ3 H3 R3 rs3 s3=>⟨hlt,δ2,R3,rs3,st2.trans s3,q2⟩
   | bk δ2=>
    cases q'
    exact fun σ3 H3 R3 rs3 s3=>k σ3 H3 R3 rs3 ((Stp.same s1).trans (st2.trans s3))
   | rt d=>
    cases q'
    exact k.back ((Stp.same s1).trans st2)
   | rb d δ2=>
    cases q'
    exact k.back ((Stp.same s1).trans st2)
   | ex c δ2=>
    cases q'
    exact k.back ((Stp.same s1).trans st2)
 ·have en : n=ds.length:=by omega
  subst en
  rw [cb] at q'
  cases q'
  exact .inl ⟨it.stop _ H' kp (ar _),k σ' H' R' rs' ((Stp.same s1).trans s')⟩
end
def z3e (np nl : Nat) (g : SS->Option Out) : List D->Option D:=fun ds=>if ds.length=np then (match g (ds.map (fun d=>some (.sh d)) ++ ae nl none) with
 | some (.rt d)=>some d
 | some (.nx _)=>some .non
 | _=>none) else none
theorem z6C {np nl : Nat} {g : SS->Option Out} {ds : List D} {d : D} (h : z3e np nl g ds=some d) : ds.length=np:=by
 unfold z3e at h
 split at h
 ·assumption
 ·cases h
theorem z6z {K : aa} {H : Hp} {B : Addr->Prop} {ds : List D} {vs : List V} {N : List Str} {nl : Nat} (hB : InB B H) (r : Reps K H B ds vs) (hN : N.length=ds.length + nl) :
  RS K H B H (z4I N vs) (ds.map (fun d=>some (.sh d)) ++ ae nl none) (fun _=>[]):=by
 have hl:=r.length
 have get : ∀ {i : Nat} {x : SD},(ds.map (fun d=>some (SD.sh d)) ++ ae nl none)[i]? = some (some x)->∃ d,ds[i]? = some d∧x = .sh d:=fun {i x} e=>by
  by_cases hi : i < ds.length
  ·rw [aY (by simpa using hi),aN,av hi] at e
   cases e
   exact ⟨ds[i],av hi,rfl⟩
  ·rw [be (by simpa using hi),bv] at e
   split at e <;> cases e
 refine ⟨.refl H,hB,?_,(fun _ _ z=>nomatch z),(fun _ _ z=>nomatch z),(fun _ _ _ z=>nomatch z),fun i d e=>?_,fun i r d e=>?_,fun i d e=>?_⟩
 ·unfold z4I
  simp
  omega
 ·obtain ⟨d',e1,e2⟩:=get e
  cases e2
  obtain ⟨v,e3,rv⟩:=r.get e1
  refine ⟨v,?_,rv.anti fun a z=>z.elim id (fun ⟨_,z⟩=>nomatch z)⟩
  unfold z4I
  have hi : i < vs.length:=(aU.mp e3).1
  rw [aY (by simpa using hi),aN,e3]
  rfl
 ·obtain ⟨d',_,e2⟩:=get e
  cases e2
 ·obtain ⟨d',_,e2⟩:=get e
  cases e2
section
variable {P : Program} {w : World} {K : aa} {mg : Str->Option Value} {base : Heap}
theorem fnN {x qual : Str} {st : Stmt} {f : Addr} {fd : FuncData} {N ps : List Str} {k np nl : Nat} {g : SS->Option Out} (F : Fun K x qual st f fd) (S : FnScope N ps (z0b st)) (hnp : ps.length=np) (hN : N.length=np + nl)
  (hbody : ∀ (cdv : Value) (A : Around) (outer : List Env) (s : Shared) (H : Hp) (E : XK),Room k (A.deeper (envOfC qual (z0b st) s.heap.objs.size f cdv)) →
   PSs (z8l CX0 P w K mg base N qual (z0b st) f cdv A outer s H E).nox (z0i st) (tS K H noB true noX g)) : FnOk P w K mg base CX0 (k + 1) f fd ps (spN K (z3e np nl g)):=by
 refine F.ok S (fun vs H Q E h=>?_) fun cdv A outer s H vs Q E hr h=>?_
 ·obtain ⟨ds,d,r,e,_⟩:=h
  rw [← r.length,z6C e,hnp]
 ·obtain ⟨ds,d,r,e,kk⟩:=h
  refine ⟨_,hbody cdv A outer s H E hr,?_⟩
  have hl:=z6C e
  unfold z3e at e
  rw [if_pos hl] at e
  have rs:=z6z (nl:=nl) .no r (N:=N) (by omega)
  split at e
  ·rename_i d' eg
   cases e
   exact ⟨_,_,_,rs,eg,fun v H' z _=>by
    obtain ⟨A',t,nd,fr⟩:=z.2.1 rfl
    exact kk v H' A' z.1 t nd fr⟩
  ·rename_i δ' eg
   cases e
   exact ⟨_,_,_,rs,eg,fun σ' H' R' rs' _=>kk .non H' [] rs'.keep ⟨rfl,rfl⟩ bh (fun a z=>nomatch z)⟩
  ·cases e
theorem z6q {x qual : Str} {st : Stmt} {f : Addr} {fd : FuncData} {N ps : List Str} {k np nl : Nat} {g : SS->Option Out} (F : Fun K x qual st f fd) (hm : mg x=some (.ref f)) (hb : Binds K fd ps []) (S : FnScope N ps (z0b st)) (hnp : ps.length=np) (hN : N.length=np + nl)
  (hbody : ∀ (cdv : Value) (A : Around) (outer : List Env) (s : Shared) (H : Hp) (E : XK),Room k (A.deeper (envOfC qual (z0b st) s.heap.objs.size f cdv)) →
   PSs (z8l CX0 P w K mg base N qual (z0b st) f cdv A outer s H E).nox (z0i st) (tS K H noB true noX g)) : DefOk P w K mg base (k + 1) x (spN K (z3e np nl g)):=
 ⟨f,fd,ps,hm,F.kp,hb,fnN F S hnp hN hbody⟩
theorem defR {x qual : Str} {st : Stmt} {f : Addr} {fd : FuncData} {N ps : List Str} {k np nl : Nat} {g : SS->Option Out} (F : Fun K x qual st f fd) (hm : mg x=some (.ref f)) (hb : Binds K fd ps []) (S : FnScope N ps (z0b st)) (hnp : ps.length=np) (hN : N.length=np + nl)
  (hbody : ∀ (cdv : Value) (A : Around) (outer : List Env) (s : Shared) (H : Hp) (E : XK) (B : Addr->Prop),Room k (A.deeper (envOfC qual (z0b st) s.heap.objs.size f cdv)) →
   PSs (z8l CX0 P w K mg base N qual (z0b st) f cdv A outer s H E).nox (z0i st) (tS K H B false noX g)) : DefOk P w K mg base (k + 1) x (spR K (z3e np nl g)):=by
 refine ⟨f,fd,ps,hm,F.kp,hb,F.ok S (fun vs H Q E h=>?_) fun cdv A outer s H vs Q E hr h=>?_⟩
 ·obtain ⟨B,ds,d,_,r,e,_⟩:=h
  rw [← r.length,z6C e,hnp]
 ·obtain ⟨B,ds,d,hB,r,e,kk⟩:=h
  refine ⟨_,hbody cdv A outer s H E B hr,?_⟩
  have hl:=z6C e
  unfold z3e at e
  rw [if_pos hl] at e
  have rs:=z6z (nl:=nl) hB r (N:=N) (by omega)
  split at e
  ·rename_i d' eg
   cases e
   exact ⟨_,_,_,rs,eg,fun v H' z _=>kk v H' z.1 (z.2.2 rfl)⟩
  ·rename_i δ' eg
   cases e
   exact ⟨_,_,_,rs,eg,fun σ' H' R' rs' _=>kk .non H' rs'.keep rfl⟩
  ·cases e
end
end L2
namespace L2
open PySem PySem.Spec PyProof.Rows PySem.SeqAt
mutual
def toP : D->PyData
 | .non=>.none
 | .bl b=>.bool b
 | .int i=>.int i
 | .str x=>.str x
 | .lst ds=>.list (z5N ds)
 | .tup ds=>.tuple (z5N ds)
 | .scr ns=>.list (ns.map .int)
 | .dct _ _=>.dict []
 | .exc _=>.dict []
 | .obj _ _ _ _=>.dict []
 | .cel _ _=>.dict []
def z5N : List D->List PyData
 | []=>[]
 | d :: ds=>toP d :: z5N ds
end
theorem z7W {h : Heap} : ∀ (ns : List Int) {us : List Value},Vals (ns.map V.int) us->∃ as,ReadsAll h us (ns.map .int) as
 | [],_,.nil=>⟨_,.nil⟩
 | n :: ns,_,.cons r t=>by
  obtain ⟨tk,rfl⟩:=r
  obtain ⟨as,ra⟩:=z7W (h:=h) ns t
  exact ⟨_,.cons (.int n tk) ra⟩
section
variable {X : Cx} {pins : List (Addr × Obj)} {σ : St} {H : Hp} {s : Shared} {B : Addr->Prop}
mutual
theorem z0Y (I : Inv X pins σ H s) : ∀ (d : D) {v : V} {u : Value},(toP d).canLay0=true->Rep X.K H B d v->RelV v u->∃ as,Reads s.heap u (toP d) as
 | .non,_,_,_,h,r=>by cases h; cases r; exact ⟨_,.none⟩
 | .bl b,_,_,_,h,r=>by cases h; cases r; exact ⟨_,.bool b⟩
 | .int i,_,_,_,h,r=>by cases h; obtain ⟨t,rfl⟩:=r; exact ⟨_,.int i t⟩
 | .str x,_,_,_,h,r=>by cases h; obtain ⟨t,rfl⟩:=r; exact ⟨_,.str x t⟩
 | .lst ds,_,_,hc,h,r=>by
  unfold Rep at h
  obtain ⟨a,xs,rfl,_,hq,rs⟩:=h
  cases r
  obtain ⟨its,rv,⟨o,n,e,c,_,dt⟩,_⟩:=I.list (SqL.of hq)
  have hc' : PyData.canLayAll0 (z5N ds)=true:=by unfold toP PyData.canLay0 at hc; exact hc
  obtain ⟨as,ra⟩:=z5Q I ds hc' rs rv
  unfold toP
  exact ⟨_,.list e c dt (by simpa using ra)⟩
 | .tup ds,_,_,hc,h,r=>by
  unfold Rep at h
  obtain ⟨a,xs,rfl,hq,rs⟩:=h
  cases r
  obtain ⟨its,rv,⟨o,e,c,n,dt⟩,_⟩:=I.tuple hq
  have hc' : PyData.canLayAll0 (z5N ds)=true:=by unfold toP PyData.canLay0 at hc; exact hc
  obtain ⟨as,ra⟩:=z5Q I ds hc' rs rv
  unfold toP
  exact ⟨_,.tuple e c dt (by simpa using ra)⟩
 | .scr ns,_,_,hc,h,r=>by
  unfold Rep at h
  obtain ⟨a,rfl,hq⟩:=h
  cases r
  obtain ⟨its,rv,⟨o,n,e,c,_,dt⟩,_⟩:=I.list hq.sq
  unfold toP
  obtain ⟨as,ra⟩:=z7W (h:=s.heap) ns rv
  exact ⟨_,.list e c dt (by simpa using ra)⟩
 | .dct _ _,_,_,hc,_,_=>by unfold toP PyData.canLay0 at hc; cases hc
 | .exc _,_,_,hc,_,_=>by unfold toP PyData.canLay0 at hc; cases hc
 | .obj _ _ _ _,_,_,hc,_,_=>by unfold toP PyData.canLay0 at hc; cases hc
 | .cel _ _,_,_,hc,_,_=>by unfold toP PyData.canLay0 at hc; cases hc
theorem z5Q (I : Inv X pins σ H s) : ∀ (ds : List D) {xs : List V} {us : List Value},PyData.canLayAll0 (z5N ds)=true->Reps X.K H B ds xs->Vals xs us->∃ as,ReadsAll s.heap us (z5N ds) as
 | [],_,_,_,h,r=>by
  unfold Reps at h
  subst h
  cases r
  exact ⟨_,.nil⟩
 | d :: ds,_,_,hc,h,r=>by
  unfold Reps at h
  obtain ⟨x,rr,rfl,h1,h2⟩:=h
  unfold z5N PyData.canLayAll0 at hc
  rw [aK] at hc
  cases r with
  | cons r1 r2=>
   obtain ⟨as,ra⟩:=z0Y I d hc.1 h1 r1
   obtain ⟨bs,rb⟩:=z5Q I ds hc.2 h2 r2
   unfold z5N
   exact ⟨_,.cons ra rb⟩
end
end
def okP (d : D) : Bool:=(toP d).canLay0 && decide ((toP d).depth≤60)
def eqD (x y : D) : Option D:=if (okP x && okP y)=true then some (.bl (PyData.eqv (toP x) (toP y))) else none
def neD (x y : D) : Option D:=if (okP x && okP y)=true then some (.bl (!PyData.eqv (toP x) (toP y))) else none
def y9t (x : D) : D->Option Bool
 | .lst ds=>if (okP x && okP (.lst ds))=true then some (ds.any fun y=>PyData.eqv (toP y) (toP x)) else none
 | .tup ds=>if (okP x && okP (.tup ds))=true then some (ds.any fun y=>PyData.eqv (toP y) (toP x)) else none
 | _=>none
def inD (x y : D) : Option D:=(y9t x y).map .bl
def y4m (x y : D) : Option D:=(y9t x y).map fun b=>.bl (!b)
def rEqD (K : aa) : R2:=fun x y H Q=>∃ B dx dy,Rep K H B dx x∧Rep K H B dy y∧okP dx=true∧okP dy=true∧Q (.bl (PyData.eqv (toP dx) (toP dy))) H
def rNeD (K : aa) : R2:=fun x y H Q=>∃ B dx dy,Rep K H B dx x∧Rep K H B dy y∧okP dx=true∧okP dy=true∧Q (.bl (!PyData.eqv (toP dx) (toP dy))) H
theorem z0x {d : D} (h : okP d=true) : (toP d).canLay0=true∧(toP d).depth≤60:=by
 unfold okP at h
 rw [aK,decide_eq_true_eq] at h
 exact h
section
variable {X : Cx}
theorem x0c (hu : X.A.units + 64 < cLine) : OpR X (compareOp .Eq) (rEqD X.K):=by
 intro pins s σ H x y v u Q I rx ry h
 obtain ⟨B,dx,dy,r1,r2,o1,o2,q⟩:=h
 obtain ⟨as,ra⟩:=z0Y I dx (z0x o1).1 r1 rx
 obtain ⟨bs,rb⟩:=z0Y I dy (z0x o2).1 r2 ry
 exact compareEq_reads ra rb (z0x o1).1 (z0x o2).1 (by have:=(z0x o1).2; omega) ⟨.bl _,H,I,rfl,q⟩
theorem op_neD (hu : X.A.units + 64 < cLine) : OpR X (compareOp .NotEq) (rNeD X.K):=by
 intro pins s σ H x y v u Q I rx ry h
 obtain ⟨B,dx,dy,r1,r2,o1,o2,q⟩:=h
 obtain ⟨as,ra⟩:=z0Y I dx (z0x o1).1 r1 rx
 obtain ⟨bs,rb⟩:=z0Y I dy (z0x o2).1 r2 ry
 exact compareNe_reads ra rb (z0x o1).1 (z0x o2).1 (by have:=(z0x o1).2; omega) ⟨.bl _,H,I,rfl,q⟩
theorem o2_eq {K : aa} : Op2 K (rEqD K) eqD:=by
 intro H B dx dy d x y Q hB hx hy q k
 unfold eqD at q
 split at q
 ·rename_i h
  rw [aK] at h
  cases q
  exact ⟨B,dx,dy,hx,hy,h.1,h.2,k _ H (.refl H) rfl⟩
 ·cases q
theorem o2_ne {K : aa} : Op2 K (rNeD K) neD:=by
 intro H B dx dy d x y Q hB hx hy q k
 unfold neD at q
 split at q
 ·rename_i h
  rw [aK] at h
  cases q
  exact ⟨B,dx,dy,hx,hy,h.1,h.2,k _ H (.refl H) rfl⟩
 ·cases q
theorem z5z (p : PyData->Bool) : ∀ ds : List D,(z5N ds).any p=ds.any fun y=>p (toP y)
 | []=>rfl
 | d :: ds=>by unfold z5N; rw [cG,cG,z5z p ds]
def rInD (K : aa) (neg : Bool) : R2:=fun x y H Q=>∃ B dx dy b,Rep K H B dx x∧Rep K H B dy y∧y9t dx dy=some b∧Q (.bl (if neg then !b else b)) H
theorem op_inD (hu : X.A.units + 64 < cLine) : OpR X (compareOp .In) (rInD X.K false):=by
 intro pins s σ H x y v u Q I rx ry h
 obtain ⟨B,dx,dy,b,r1,r2,o,q⟩:=h
 unfold y9t at o
 split at o
 ·split at o
  ·rename_i ds h
   rw [aK] at h
   cases o
   obtain ⟨as,ra⟩:=z0Y I dx (z0x h.1).1 r1 rx
   obtain ⟨bs,rb⟩:=z0Y I _ (z0x h.2).1 r2 ry
   have hc:=(z0x h.2).1
   unfold toP at rb hc
   unfold PyData.canLay0 at hc
   refine in_list_reads rb ra hc (z0x h.1).1 (by have:=(z0x h.1).2; omega) ?_
   rw [z5z]
   exact ⟨.bl _,H,I,rfl,q⟩
  ·cases o
 ·split at o
  ·rename_i ds h
   rw [aK] at h
   cases o
   obtain ⟨as,ra⟩:=z0Y I dx (z0x h.1).1 r1 rx
   obtain ⟨bs,rb⟩:=z0Y I _ (z0x h.2).1 r2 ry
   have hc:=(z0x h.2).1
   unfold toP at rb hc
   unfold PyData.canLay0 at hc
   refine in_tuple_reads rb ra hc (z0x h.1).1 (by have:=(z0x h.1).2; omega) ?_
   rw [z5z]
   exact ⟨.bl _,H,I,rfl,q⟩
  ·cases o
 ·cases o
theorem op_ninD (hu : X.A.units + 64 < cLine) : OpR X (compareOp .NotIn) (rInD X.K true):=by
 intro pins s σ H x y v u Q I rx ry h
 obtain ⟨B,dx,dy,b,r1,r2,o,q⟩:=h
 unfold y9t at o
 split at o
 ·split at o
  ·rename_i ds h
   rw [aK] at h
   cases o
   obtain ⟨as,ra⟩:=z0Y I dx (z0x h.1).1 r1 rx
   obtain ⟨bs,rb⟩:=z0Y I _ (z0x h.2).1 r2 ry
   have hc:=(z0x h.2).1
   unfold toP at rb hc
   unfold PyData.canLay0 at hc
   refine notIn_list_reads rb ra hc (z0x h.1).1 (by have:=(z0x h.1).2; omega) ?_
   rw [z5z]
   exact ⟨.bl _,H,I,rfl,q⟩
  ·cases o
 ·split at o
  ·rename_i ds h
   rw [aK] at h
   cases o
   obtain ⟨as,ra⟩:=z0Y I dx (z0x h.1).1 r1 rx
   obtain ⟨bs,rb⟩:=z0Y I _ (z0x h.2).1 r2 ry
   have hc:=(z0x h.2).1
   unfold toP at rb hc
   unfold PyData.canLay0 at hc
   refine notIn_tuple_reads rb ra hc (z0x h.1).1 (by have:=(z0x h.1).2; omega) ?_
   rw [z5z]
   exact ⟨.bl _,H,I,rfl,q⟩
  ·cases o
 ·cases o
theorem o2_in {K : aa} : Op2 K (rInD K false) inD:=by
 intro H B dx dy d x y Q hB hx hy q k
 unfold inD at q
 cases e : y9t dx dy with
 | none=>rw [e] at q; cases q
 | some b=>
  rw [e] at q
  cases q
  exact ⟨B,dx,dy,b,hx,hy,e,k _ H (.refl H) rfl⟩
theorem o2_nin {K : aa} : Op2 K (rInD K true) y4m:=by
 intro H B dx dy d x y Q hB hx hy q k
 unfold y4m at q
 cases e : y9t dx dy with
 | none=>rw [e] at q; cases q
 | some b=>
  rw [e] at q
  cases q
  exact ⟨B,dx,dy,b,hx,hy,e,k _ H (.refl H) rfl⟩
def OpA (K : aa) (r : List V->Hp->VK->Prop) (F : List D->Option D) : Prop:=∀ (H : Hp) (B : Addr->Prop) (ds : List D) (d : D) (vs : List V) (Q : VK),InB B H->Reps K H B ds vs->F ds=some d->(∀ v H',Same H H'->Rep K H' B d v->Q v H')->r vs H Q
def OpL (K : aa) (r : List V->Hp->VK->Prop) (F : List D->Option (List D)) : Prop:=∀ (H : Hp) (B : Addr->Prop) (ds es : List D) (vs : List V) (Q : VK),InB B H->Reps K H B ds vs->F ds=some es →
 (∀ a xs H',Same H H'->H a=none->H' a=some (.lst xs)->Reps K H' B es xs->Q (.ref a) H')->r vs H Q
def z1V (F : List D->Option (List D)) (fl : List DE) : DS->Option (List D):=fun δ=>(z0o fl δ).bind F
variable {x : Str} {bid T : String} {r : List V->Hp->VK->Prop} {e : Expr} {es : List Expr} {p pos : Pos} {fl : List DE}
theorem callA {F : List D->Option D} (ho : OpA X.K r F) (σ : St) (H : Hp) (Q : VK) (h : tD X.K (z0k F fl) σ H Q) : tCB r (tDs X.K (z0o fl)) σ H Q:=by
 obtain ⟨B,δ,d,hB,S,q,k⟩:=h
 obtain ⟨ds,e1,e2⟩:=z5J q
 exact ⟨B,δ,ds,hB,S,e1,fun vs H1 s1 r1=>ho H1 B ds d vs Q (hB.mono s1) r1 e2 fun v H' s' rv=>k v H' (s1.trans s') rv⟩
theorem callL {F : List D->Option (List D)} (ho : OpL X.K r F) (σ : St) (H : Hp) (Q : VK) (h : tF X.K (z1V F fl) σ H Q) : tCB r (tDs X.K (z0o fl)) σ H Q:=by
 obtain ⟨B,δ,d,hB,S,q,k⟩:=h
 unfold z1V at q
 cases e1 : z0o fl δ with
 | none=>rw [e1] at q; cases q
 | some ds=>
  rw [e1] at q
  exact ⟨B,δ,ds,hB,S,e1,fun vs H1 s1 r1=>ho H1 B ds d vs Q (hB.mono s1) r1 q fun a xs H' s' hn ha rv=>k a xs H' (s1.trans s') (s1.free hn) ha rv⟩
theorem z8h {F : List D->Option D} (hc : z6S X (.builtin bid) r) (hD : OpA X.K r F) (hg : Gl X x) (hm : X.mg x=none) (hv : bootBuiltins x=some (.builtin bid)) (ha : PAD X (e :: es) fl) (hn : x ≠ "__name__" := by decide) (hdb : (x == ("__debug__" : Str))=false:=by decide)
  (he : starEach (e :: es) X.env=(false,eval e X.env) :: starEach es X.env:=by rfl) (hpl : (backTo pos (starEach es X.env)).any (·.1)=false:=by rfl) : PD X (.Call (.Name x p) (e :: es) [] pos) (z0k F fl):=
 (z6B hc hg hm hv ha hn hdb he hpl).imp (callA hD)
theorem y8v {F : List D->Option (List D)} (hc : z6S X (.type T) r) (hD : OpL X.K r F) (hg : Gl X x) (hm : X.mg x=none) (hv : bootBuiltins x=some (.type T)) (ha : PAD X (e :: es) fl) (hn : x ≠ "__name__" := by decide) (hdb : (x == ("__debug__" : Str))=false:=by decide)
  (he : starEach (e :: es) X.env=(false,eval e X.env) :: starEach es X.env:=by rfl) (hpl : (backTo pos (starEach es X.env)).any (·.1)=false:=by rfl) : PF X (.Call (.Name x p) (e :: es) [] pos) (z1V F fl):=
 (z9w hc hg hm hv ha hn hdb he hpl).imp (callL hD)
theorem z7p {K : aa} {H : Hp} {B : Addr->Prop} {d : D} {vs : List V} (h : Reps K H B [d] vs) : ∃ v,vs=[v]∧Rep K H B d v:=by
 unfold Reps at h
 obtain ⟨x,r,rfl,h1,h2⟩:=h
 unfold Reps at h2
 subst h2
 exact ⟨x,rfl,h1⟩
theorem reps2 {K : aa} {H : Hp} {B : Addr->Prop} {d e : D} {vs : List V} (h : Reps K H B [d,e] vs) : ∃ v u,vs=[v,u]∧Rep K H B d v∧Rep K H B e u:=by
 unfold Reps at h
 obtain ⟨x,r,rfl,h1,h2⟩:=h
 obtain ⟨u,rfl,h3⟩:=z7p h2
 exact ⟨x,u,rfl,h1,h3⟩
def z3v : List D->Option D
 | [.lst ds]=>some (.int ds.length)
 | [.tup ds]=>some (.int ds.length)
 | [.scr ns]=>some (.int ns.length)
 | _=>none
theorem oa_len {K : aa} : OpA K (fun xs H Q=>∃ x n,xs=[x]∧LenV K x H n∧Q (.int n) H) z3v:=by
 intro H B ds d vs Q hB hr q k
 unfold z3v at q
 split at q
 ·cases q
  obtain ⟨v,rfl,r⟩:=z7p hr
  unfold Rep at r
  obtain ⟨a,xs,rfl,_,h,rs⟩:=r
  refine ⟨.ref a,xs.length,rfl,.inl ⟨xs,SqL.of h,rfl⟩,k _ H (.refl H) ?_⟩
  show V.int _=V.int _
  rw [rs.length]
 ·cases q
  obtain ⟨v,rfl,r⟩:=z7p hr
  unfold Rep at r
  obtain ⟨a,xs,rfl,h,rs⟩:=r
  refine ⟨.ref a,xs.length,rfl,.inr ⟨xs,h,rfl⟩,k _ H (.refl H) ?_⟩
  show V.int _=V.int _
  rw [rs.length]
 ·cases q
  obtain ⟨v,rfl,r⟩:=z7p hr
  unfold Rep at r
  obtain ⟨a,rfl,h⟩:=r
  exact ⟨.ref a,_,rfl,.inl ⟨_,h.sq,(aq ..).symm⟩,k _ H (.refl H) rfl⟩
 ·cases q
theorem z1f {f : DE} (hg : Gl X "len") (hm : X.mg "len" = none) (h : PD X e f) (he : starEach [e] X.env=[(false,eval e X.env)]:=by rfl) : PD X (.Call (.Name "len" p) [e] [] pos) (z0k z3v [f]):=
 z8h y8O oa_len hg hm PySem.boot_len (z0a h z0e he) (by decide) (by decide) he rfl
def z8m : List D->Option (List Bool)
 | []=>some []
 | .bl b :: r=>(z8m r).map (b :: ·)
 | _=>none
def z4p : List D->Option (List Int)
 | []=>some []
 | .int i :: r=>(z4p r).map (i :: ·)
 | _=>none
theorem z7R {K : aa} {H : Hp} {B : Addr->Prop} : ∀ {ds : List D} {bs : List Bool} {xs : List V},z8m ds=some bs->Reps K H B ds xs->xs=bs.map V.bl
 | [],_,_,e,h=>by cases e; unfold Reps at h; exact h
 | .bl b :: r,bs,xs,e,h=>by
  unfold z8m at e
  cases q : z8m r with
  | none=>rw [q] at e; cases e
  | some cs=>
   rw [q] at e
   cases e
   unfold Reps at h
   obtain ⟨x,r',rfl,h1,h2⟩:=h
   rw [z7R q h2,show x=V.bl b from h1]
   rfl
 | .non :: _,_,_,e,_=>nomatch e
 | .int _ :: _,_,_,e,_=>nomatch e
 | .str _ :: _,_,_,e,_=>nomatch e
 | .lst _ :: _,_,_,e,_=>nomatch e
 | .tup _ :: _,_,_,e,_=>nomatch e
 | .dct _ _ :: _,_,_,e,_=>nomatch e
 | .exc _ :: _,_,_,e,_=>nomatch e
 | .obj _ _ _ _ :: _,_,_,e,_=>nomatch e
 | .cel _ _ :: _,_,_,e,_=>nomatch e
 | .scr _ :: _,_,_,e,_=>nomatch e
theorem z9I {K : aa} {H : Hp} {B : Addr->Prop} : ∀ {ds : List D} {bs : List Int} {xs : List V},z4p ds=some bs->Reps K H B ds xs->xs=bs.map V.int
 | [],_,_,e,h=>by cases e; unfold Reps at h; exact h
 | .int b :: r,bs,xs,e,h=>by
  unfold z4p at e
  cases q : z4p r with
  | none=>rw [q] at e; cases e
  | some cs=>
   rw [q] at e
   cases e
   unfold Reps at h
   obtain ⟨x,r',rfl,h1,h2⟩:=h
   rw [z9I q h2,show x=V.int b from h1]
   rfl
 | .non :: _,_,_,e,_=>nomatch e
 | .bl _ :: _,_,_,e,_=>nomatch e
 | .str _ :: _,_,_,e,_=>nomatch e
 | .lst _ :: _,_,_,e,_=>nomatch e
 | .tup _ :: _,_,_,e,_=>nomatch e
 | .dct _ _ :: _,_,_,e,_=>nomatch e
 | .exc _ :: _,_,_,e,_=>nomatch e
 | .obj _ _ _ _ :: _,_,_,e,_=>nomatch e
 | .cel _ _ :: _,_,_,e,_=>nomatch e
 | .scr _ :: _,_,_,e,_=>nomatch e
theorem y1W : ∀ {bs : List Bool} {us : List Value},Vals (bs.map V.bl) us->PyProof.Rows.LSm.BoolsAre us bs
 | [],_,.nil=>.nil
 | b :: bs,_,.cons r t=>by
  cases r
  exact .cons b (y1W t)
theorem y6S (hc : X.calm=true) : z6S X (.builtin "all") (fun xs H Q=>∃ (p : Addr) (bs : List Bool),xs=[.ref p]∧SqL X.K H p (bs.map V.bl)∧Q (.bl (bs.all (fun b=>b))) H):=by
 intro pins s σ H xs us Q I r h
 obtain ⟨p,bs,rfl,hq,q⟩:=h
 obtain ⟨u,rfl,ru⟩:=y5y r
 cases ru
 obtain ⟨its,rv,pl,hz⟩:=I.list hq
 have hl:=pl.isList
 have hb:=y1W rv
 have hlt : p < s.heap.objs.size:=by obtain ⟨_,e,_⟩:=hl; exact Heap.lt_size e
 refine call_all_walk (wpAny_pyIter_list hl ?_)
 refine ⟨s.heap.objs.size,[s.heap.objs.size,p],[s.heap.objs.size],its.toArray.size,_,_,fun i=>(bs[i]?).getD true,rfl,Walks.list (A:=X.A.in1) (I.ok.hd hc) _ p (aF hlt) its.toArray,
  ⟨⟨_,Heap.get?_push_size _ rfl,rfl,rfl⟩,hl.push _⟩,fun i v s' Q' E' hP hQ=>?_,fun h' tk hk=>?_⟩
 ·obtain ⟨b,e,rfl⟩:=hb.get i v (by simpa using hP)
  simp only [e,c5] at hQ
  exact wpAny_truthy_bool hQ
 ·have e : ((ah its.toArray.size).all fun i=>(bs[i]?).getD true)=bs.all (fun b=>b):=by
   rw [aD,hb.length]; exact LSm.range_all bs
  rw [e]
  exact ⟨.bl _,H,I.kept (LSm.kept_iter hk),rfl,q⟩
def allF : List D->Option D
 | [.lst ds]=>(z8m ds).map fun bs=>.bl (bs.all (fun b=>b))
 | _=>none
theorem oa_all {K : aa} : OpA K (fun xs H Q=>∃ (p : Addr) (bs : List Bool),xs=[.ref p]∧SqL K H p (bs.map V.bl)∧Q (.bl (bs.all (fun b=>b))) H) allF:=by
 intro H B ds d vs Q hB hr q k
 unfold allF at q
 split at q
 ·rename_i es
  cases e : z8m es with
  | none=>rw [e] at q; cases q
  | some bs=>
   rw [e] at q
   cases q
   obtain ⟨v,rfl,r⟩:=z7p hr
   unfold Rep at r
   obtain ⟨a,xs,rfl,_,h,rs⟩:=r
   rw [z7R e rs] at h
   exact ⟨a,bs,rfl,SqL.of h,k _ H (.refl H) rfl⟩
 ·cases q
theorem x0O {f : DE} (hc : X.calm=true) (hg : Gl X "all") (hm : X.mg "all" = none) (h : PD X e f) (he : starEach [e] X.env=[(false,eval e X.env)]:=by rfl) : PD X (.Call (.Name "all" p) [e] [] pos) (z0k allF [f]):=
 z8h (y6S hc) oa_all hg hm PyProof.Rows.Boot.«all» (z0a h z0e he) (by decide) (by decide) he rfl
def z6n : List D->Option (List D)
 | [.lst ds]=>some ds
 | [.tup ds]=>some ds
 | [.scr ns]=>some (ns.map .int)
 | _=>none
theorem ol_list {K : aa} : OpL K (fun xs H Q=>∃ p ys,xs=[.ref p]∧(SqL K H p ys∨SqT K H p ys)∧∀ l,H l=none->Q (.ref l) (upd H l (.lst ys))) z6n:=by
 intro H B ds es vs Q hB hr q k
 unfold z6n at q
 split at q
 ·cases q
  obtain ⟨v,rfl,r⟩:=z7p hr
  unfold Rep at r
  obtain ⟨a,xs,rfl,_,h,rs⟩:=r
  exact ⟨a,xs,rfl,.inl (SqL.of h),fun l hl=>k l xs _ (z0t hl) hl z0s (rs.mono (z0t hl))⟩
 ·cases q
  obtain ⟨v,rfl,r⟩:=z7p hr
  unfold Rep at r
  obtain ⟨a,xs,rfl,h,rs⟩:=r
  exact ⟨a,xs,rfl,.inr h,fun l hl=>k l xs _ (z0t hl) hl z0s (rs.mono (z0t hl))⟩
 ·cases q
  obtain ⟨v,rfl,r⟩:=z7p hr
  unfold Rep at r
  obtain ⟨a,rfl,h⟩:=r
  exact ⟨a,_,rfl,.inl h.sq,fun l hl=>k l _ _ (z0t hl) hl z0s (z3x _)⟩
 ·cases q
theorem z6J {f : DE} (hg : Gl X "list") (hm : X.mg "list" = none) (h : PD X e f) (he : starEach [e] X.env=[(false,eval e X.env)]:=by rfl) : PF X (.Call (.Name "list" p) [e] [] pos) (z1V z6n [f]):=
 y8v y0n ol_list hg hm PyProof.Rows.Boot.«list» (z0a h z0e he) (by decide) (by decide) he rfl
end
end L2
namespace L2
open PySem PySem.Spec PyProof.Rows
def tyN : D->String
 | .non => "NoneType"
 | .bl _ => "bool"
 | .int _ => "int"
 | .str _ => "str"
 | .lst _ => "list"
 | .tup _ => "tuple"
 | .scr _ => "list"
 | .dct _ _ => "dict"
 | .exc _ => "object"
 | .obj _ _ _ _ => "object"
 | .cel _ _ => "list"
inductive IsT : String->Prop where
 | bool : IsT "bool" | int : IsT "int" | str : IsT "str" | list : IsT "list" | tuple : IsT "tuple" | dict : IsT "dict"
def isF (T : String) (d : D) : Bool:=tyN d == T || (tyN d == "bool" && T == "int")
theorem kit_tt (K : aa) {T : String} (h : IsT T) (d : D) (hd : ∀ x,d≠.exc x) (hd2 : ∀ x a ks ds,d≠.obj x a ks ds) : bc K (.type (tyN d)) (.type T)=some (isF T d):=by
 cases h <;> cases d <;> first | kernel_rfl | exact absurd rfl (hd _) | exact absurd rfl (hd2 _ _ _ _)
section
variable {prog : Program} {w : World} {A : Around} {E : Value->Shared->Prop} {K : aa} {x D : Addr} {ox : Obj} {s : Shared}
theorem y4v {Q : Option Value->Shared->Prop} (X : K.In s.heap) (I : cK s.heap x ox D none) (hga : aS K (.ref D) "__getattribute__" = some (some (.builtin "BaseException.__getattribute__"))) (hgh : aS K (.ref D) "__getattr__" = some none)
  (hf : de K D none "__class__" = some (.bind (.builtin "getset_descriptor.__get__") (.builtin "object.__class__"))) (hm : bB K D (.type "object")=some true) (hb : bB K D (.type "BaseException")=some true)
  (h : Q (some (.ref D)) { s with toks:=s.toks + 1 }) : wpAny (model prog w) A (getAttr? (.ref x) "__class__") Q E s:=by
 obtain ⟨hp,gs,dr,tk,os⟩:=s
 have T0:=I.type (M:=model prog w)
 have T1:=dW (M:=model prog w) X hga
 have T2:=dW (M:=model prog w) X hgh
 have T3:=PySem.W.looks_find (M:=model prog w) X I hf
 have T4:=PySem.W.looks_mroIn (M:=model prog w) X hb
 have hne : (onTheHeap (Value.ref D) && Value.builtin "BaseException.__getattribute__" == Value.builtin "object.__getattribute__")=false:=by
  have z : (Value.builtin "BaseException.__getattribute__" == Value.builtin "object.__getattribute__")=false:=by decide +kernel
  rw [z,dM]
 unfold getAttr? getAttrBy?
 refine wpAny_bind (wpAny_mkText ?_)
 refine wpAny_bind (wpAny_attempt ?_)
 unfold getAttrBy
 refine wpAny_holding (wpAny_bind (T0.at ?_))
 refine wpAny_bind (T1.at ?_)
 dsimp only
 rw [hne,if_neg ax]
 unfold getAttrByItsOwn hookBefore
 rw [if_pos (show onTheHeap (Value.ref D)=true from rfl)]
 refine wpAny_bind (T2.at ?_)
 refine wpAny_bind (wpAny_attempt (wpAny_holding ?_))
 unfold callGetattribute boundAndCalled
 rw [dL,if_neg ax,F.excAttr_ValueError.ga.bind]
 refine wpAny_bind (wpAny_pure ?_)
 refine wpAny_call (codeAny_call_builtin F.excAttr_ValueError.ga.plain F.entry_bexc_ga ?_)
 have k1 : builtinKind "BaseException.__getattribute__" = some .slot:=by decide +kernel
 have k2 : splitId "BaseException.__getattribute__" = some ("BaseException", "__getattribute__"):=by decide +kernel
 simp only [checkBuiltinCall,k1,k2]
 have ha:=F.args_bexc_ga (.ref x) (.str "__class__" tk)
 have TI : PySem.W.Looks (model prog w) hp (isInstance (.ref x) (.type "BaseException")) true:=T0.andThen T4
 show wpAny _ _ (isInstance (.ref x) (.type "BaseException") >>= _) _ _ _
 refine wpAny_bind (TI.at ?_)
 rw [if_neg (by decide)]
 unfold argsOk at ha
 refine wpAny_of_eq (a:=()) ha ?_
 unfold Builtin.«object.__getattribute__»
 refine wpAny_bind (wpAny_of_eq (a:=(Value.ref x,[Value.str "__class__" tk])) rfl ?_)
 dsimp only
 refine wpAny_bind (wpAny_of_eq (a:=("__class__" : Str)) rfl ?_)
 refine wpAny_bind (T0.at ?_)
 refine wpAny_bind (T3.at ?_)
 show wpAny _ _ (holding [Value.builtin "object.__class__"] (call (.builtin "getset_descriptor.__get__") [.builtin "object.__class__",.ref x,.ref D]) >>= ret) _ _ _
 refine wpAny_bind (wpAny_holding (wpAny_call (PySem.W.class_get X I hm ?_)))
 refine wpAny_pure ?_
 exact PySem.W.handed_on rfl (wpAny_pure h)
end
theorem xcls_of {K : aa} {C : Addr} (h : z5e K C=true) : aS K (.ref C) "__getattribute__" = some (some (.builtin "BaseException.__getattribute__"))∧aS K (.ref C) "__getattr__" = some none∧bB K C (.type "BaseException")=some true∧(dJ K C).isSome=true ∧
  aS K (.ref C) "__class__" = some (some (.builtin "object.__class__"))∧bJ K (.builtin "object.__class__") "__get__" = some (some (.builtin "getset_descriptor.__get__"))∧ce K (.builtin "object.__class__")=some true∧bB K C (.type "object")=some true:=by
 unfold z5e at h
 simp only [aK,beq_iff_eq] at h
 exact ⟨h.1.1.1.1.1.1.1.1,h.1.1.1.1.1.1.1.2,h.1.1.1.1.1.1.2,h.1.1.1.1.1.2,h.1.1.1.1.2,h.1.1.1.2,h.1.1.2,h.1.2⟩
theorem icls_of {K : aa} {C : Addr} {ks : List Str} (h : y3w K C ks=true) : Cls K C∧aS K (.ref C) "__class__" = some (some (.builtin "object.__class__"))∧bJ K (.builtin "object.__class__") "__get__" = some (some (.builtin "getset_descriptor.__get__"))∧ce K (.builtin "object.__class__")=some true∧bB K C (.type "object")=some true ∧
  (["bool", "int", "str", "list", "tuple", "dict"].all fun T=>bc K (.ref C) (.type T) == some false)=true∧∀ f∈ks,NoAttr K C f:=by
 unfold y3w at h
 rw [az,az,az,az,az,az,az,az,az] at h
 obtain ⟨⟨⟨⟨⟨⟨⟨⟨⟨a1,a2⟩,a3⟩,a4⟩,a5⟩,a6⟩,a7⟩,a8⟩,a9⟩,a10⟩:=h
 rw [aT] at a10
 exact ⟨⟨a1,a2,a3,beq_iff_eq.mp a4⟩,beq_iff_eq.mp a5,beq_iff_eq.mp a6,beq_iff_eq.mp a7,beq_iff_eq.mp a8,a9,fun f hf=>beq_iff_eq.mp (a10 f hf)⟩
theorem y2A {K : aa} {x C : Addr} {ox : Obj} (h : z5e K C=true) : PySem.W.KitX K (.ref x) (.ref C) (fun g=>cK g x ox C none):=by
 obtain ⟨g1,g2,g3,h2,h3,h4,h5,h6⟩:=xcls_of h
 obtain ⟨cd,hcd⟩:=cD.mp h2
 have hk : ∃ c d sl,K.lookup C=some ⟨c,d,.cls cd,sl⟩:=by
  unfold dJ at hcd
  split at hcd
  ·cases hcd; exact ⟨_,_,_,by assumption⟩
  ·cases hcd
 obtain ⟨c0,d0,sl0,hk⟩:=hk
 have hf : de K C none "__class__" = some (.bind (.builtin "getset_descriptor.__get__") (.builtin "object.__class__")):=by
  unfold de
  rw [hcd,am,h3,am]
  simp [h4,h5]
 refine ⟨fun _ _ _ I=>I.type,fun _ _ X _=>?_,fun g tp dd its n sl X ht=>?_,fun X I k=>?_⟩
 ·intro A' Q' E' s' kk q
  unfold isType loadHead
  exact wpAny_bind (wpAny_loadPart (kk _ _ (X _ _ hk)) (wpAny_pure q))
 ·cases hz : (Value.ref C == Value.ref tp) with
  | false=>rfl
  | true=>
   have e : C=tp:=Value.ref.inj (beq_iff_eq.mp hz)
   rw [← e] at ht
   have z:=(X _ _ hk).symm.trans ht
   cases z
 ·exact y4v X I g1 g2 hf h6 g3 k
theorem y9K {X : Cx} {pins : List (Addr × Obj)} {σ : St} {H : Hp} {s : Shared} {a C : Addr} (I : Inv X pins σ H s) (h : H a=some (.ext (isX a C))) : ∃ o,cK s.heap a o C none:=by
 obtain ⟨⟨o,h1,h2,h3,h4⟩,_⟩:=(show ObjOk X.prog X.w H s.heap a (.ext (isX a C)) from I.hok a _ h)
 exact ⟨o,h1,h2,h4,by rw [h3]; trivial⟩
section
variable {X : Cx} {pins : List (Addr × Obj)} {σ : St} {H : Hp} {s : Shared} {B : Addr->Prop} {A : Around} {E : Value->Shared->Prop} {Q : Value->Shared->Prop}
theorem y3A {d : D} {v : V} {u : Value} {T : String} (I : Inv X pins σ H s) (r : Rep X.K H B d v) (rv : RelV v u) (hT : IsT T) (h : ∀ tk,Q (.bool (isF T d)) { s with toks:=tk }) : wpAny (model X.prog X.w) A (call (.builtin "isinstance") [u,.type T]) Q E s:=by
 by_cases hd : ∃ x,d = .exc x
 ·obtain ⟨x,rfl⟩:=hd
  unfold Rep at r
  obtain ⟨a,C,rfl,_,hq,_,hx⟩:=r
  cases rv
  obtain ⟨o,ie⟩:=y9K I hq
  have e : bc X.K (.ref C) (.type T)=some (isF T (.exc x)):=by
   have h6:=(az.mp hx).2
   rw [aT] at h6
   have h7:=beq_iff_eq.mp (h6 T (by cases hT <;> decide))
   rw [h7]
   cases hT <;> rfl
  exact bd (y2A hx) I.kIn ie e (fun z=>nomatch z) h
 have hd : ∀ x,d≠.exc x:=fun x z=>hd ⟨x,z⟩
 by_cases hd2 : ∃ x a ks ds,d = .obj x a ks ds
 ·obtain ⟨x,a,ks,ds,rfl⟩:=hd2
  unfold Rep at r
  obtain ⟨C,dx,fs,_,hq,⟨rfl,_,hx,_⟩,_⟩:=r
  cases rv
  obtain ⟨cl,h3,h4,h5,h6,h7,_⟩:=icls_of hx
  obtain ⟨mA,O,_⟩:=ins_get I.hok hq
  obtain ⟨od,J,_⟩:=O.look
  have e : bc X.K (.ref C) (.type T)=some (isF T (.obj x a ks ds)):=by
   rw [aT] at h7
   have h8:=beq_iff_eq.mp (h7 T (by cases hT <;> decide))
   rw [h8]
   cases hT <;> rfl
  exact bd (PySem.W.kitx_own (cl.get _) cl.hd h3 h4 h5 h6) I.kIn J e (fun z=>nomatch z) h
 have e:=kit_tt X.K hT d hd (fun x a ks ds z=>hd2 ⟨x,a,ks,ds,z⟩)
 cases d with
 | exc x=>exact absurd rfl (hd x)
 | obj x a ks ds=>exact absurd ⟨x,a,ks,ds,rfl⟩ hd2
 | non=>cases r; cases rv; exact bd PySem.W.kitx_none I.kIn True.intro e (fun z=>nomatch z) h
 | bl y=>cases r; cases rv; exact bd PySem.W.kitx_bool I.kIn True.intro e (fun z=>nomatch z) h
 | int i=>cases r; obtain ⟨t,q⟩:=rv; cases q; exact bd PySem.W.kitx_int I.kIn True.intro e (fun z=>nomatch z) h
 | str y=>cases r; obtain ⟨t,q⟩:=rv; cases q; exact bd PySem.W.kitx_str I.kIn True.intro e (fun z=>nomatch z) h
 | cel a ds=>
  unfold Rep at r
  obtain ⟨xs,_,hq,rfl,_⟩:=r
  cases rv
  obtain ⟨its,_,⟨o,n,e1,c,_⟩,_⟩:=I.list (SqL.of hq)
  exact bd cV I.kIn ⟨o,e1,c⟩ e (fun z=>nomatch z) h
 | lst ds=>
  unfold Rep at r
  obtain ⟨a,xs,rfl,_,hq,_⟩:=r
  cases rv
  obtain ⟨its,_,⟨o,n,e1,c,_⟩,_⟩:=I.list (SqL.of hq)
  exact bd cV I.kIn ⟨o,e1,c⟩ e (fun z=>nomatch z) h
 | tup ds=>
  unfold Rep at r
  obtain ⟨a,xs,rfl,hq,_⟩:=r
  cases rv
  obtain ⟨its,_,⟨o,e1,c,_⟩,_⟩:=I.tuple hq
  exact bd PySem.W.kitx_tuple I.kIn ⟨o,e1,c⟩ e (fun z=>nomatch z) h
 | scr ns=>
  unfold Rep at r
  obtain ⟨a,rfl,hq⟩:=r
  cases rv
  obtain ⟨its,_,⟨o,n,e1,c,_⟩,_⟩:=I.list hq.sq
  exact bd cV I.kIn ⟨o,e1,c⟩ e (fun z=>nomatch z) h
 | dct ks ds=>
  unfold Rep at r
  obtain ⟨a,kvs,rfl,_,ea,_⟩:=r
  cases rv
  obtain ⟨_,_,vs,_,p⟩:=(show ObjOk X.prog X.w H s.heap a (.dK kvs) from I.hok a _ ea)
  obtain ⟨o,es,ep,h1,h2,_⟩:=p
  exact bd PySem.W.kitx_dict I.kIn ⟨o,h1,h2.1⟩ e (fun z=>nomatch z) h
end
section
variable {X : Cx} {e : Expr} {p p2 pos : Pos}
def dIs (T : String) (f : DE) : DE:=fun δ=>(f δ).map fun d=>.bl (isF T d)
theorem y9e {T : String} (hT : IsT T) : z6S X (.builtin "isinstance") (fun xs H Q=>∃ B d v,xs=[v,.ty T]∧Rep X.K H B d v∧Q (.bl (isF T d)) H):=by
 intro pins s σ H xs us Q I r h
 obtain ⟨B,d,v,rfl,rv,q⟩:=h
 obtain ⟨u,w',rfl,r1,r2⟩:=vals2 r
 cases r2
 exact y3A I rv r1 hT fun tk=>⟨.bl _,H,I.tok tk,rfl,q⟩
theorem pd_is {f : DE} {x : Str} {T : String} (hT : IsT T) (hb : bootBuiltins x=some (.type T)) (hx : Gl X x) (hmx : X.mg x=none) (hnx : x ≠ "__name__") (hdx : (x == ("__debug__" : Str))=false) (hg : Gl X "isinstance") (hm : X.mg "isinstance" = none) (h : PD X e f)
  (he : starEach [e,.Name x p2] X.env=[(false,eval e X.env),(false,eval (.Name x p2) X.env)]:=by rfl) (he2 : starEach [.Name x p2] X.env=[(false,eval (.Name x p2) X.env)]:=by rfl) : PD X (.Call (.Name "isinstance" p) [e,.Name x p2] [] pos) (dIs T f):=
 (z6B (y9e hT) hg hm boot_isinstance (z1l h (z1l (pe_bltn (v:=.ty T) hx hmx hb rfl hnx hdx) pa_nil he2) (by rw [he,he2])) (by decide) (by decide) (by rw [he,he2]) (by rw [he2]; rfl)).imp fun σ H Q ⟨B,δ,d,hB,S,q,k⟩=>by
  unfold dIs at q
  cases e1 : f δ with
  | none=>rw [e1] at q; cases q
  | some d'=>
   rw [e1] at q
   cases q
   exact ⟨B,δ,d',hB,S,e1,fun v H1 s1 r1=>⟨B,d',v,rfl,r1,k _ H1 s1 rfl⟩⟩
theorem z9T {f : DE} (hx : Gl X "bool") (hmx : X.mg "bool" = none) (hg : Gl X "isinstance") (hm : X.mg "isinstance" = none) (h : PD X e f) (he : starEach [e,.Name "bool" p2] X.env=[(false,eval e X.env),(false,eval (.Name "bool" p2) X.env)]:=by rfl) :
  PD X (.Call (.Name "isinstance" p) [e,.Name "bool" p2] [] pos) (dIs "bool" f):=pd_is .bool PyProof.Rows.Boot.«bool» hx hmx (by decide) (by decide) hg hm h he rfl
theorem y2l {f : DE} (hx : Gl X "int") (hmx : X.mg "int" = none) (hg : Gl X "isinstance") (hm : X.mg "isinstance" = none) (h : PD X e f) (he : starEach [e,.Name "int" p2] X.env=[(false,eval e X.env),(false,eval (.Name "int" p2) X.env)]:=by rfl) :
  PD X (.Call (.Name "isinstance" p) [e,.Name "int" p2] [] pos) (dIs "int" f):=pd_is .int PyProof.Rows.Boot.«int» hx hmx (by decide) (by decide) hg hm h he rfl
theorem y6x {f : DE} (hx : Gl X "list") (hmx : X.mg "list" = none) (hg : Gl X "isinstance") (hm : X.mg "isinstance" = none) (h : PD X e f) (he : starEach [e,.Name "list" p2] X.env=[(false,eval e X.env),(false,eval (.Name "list" p2) X.env)]:=by rfl) :
  PD X (.Call (.Name "isinstance" p) [e,.Name "list" p2] [] pos) (dIs "list" f):=pd_is .list PyProof.Rows.Boot.«list» hx hmx (by decide) (by decide) hg hm h he rfl
end
def y1N (i : Nat) : Option SD->Option SD
 | some (.bo r d)=>if r=i then none else some (.bo r d)
 | o=>o
def z0G (i : Nat) (δ : SS) : SS:=δ.map (y1N i)
theorem z4v {i j : Nat} {δ : SS} {x : SD} (h : (z0G i δ)[j]? = some (some x)) : δ[j]? = some (some x)∧∀ d,x≠.bo i d:=by
 unfold z0G at h
 rw [aN] at h
 cases e : δ[j]? with
 | none=>rw [e] at h; cases h
 | some o=>
  rw [e] at h
  have h' : y1N i o=some x:=Option.some.inj h
  unfold y1N at h'
  split at h'
  ·rename_i r d
   split at h'
   ·cases h'
   ·rename_i hr
    cases h'
    exact ⟨rfl,fun d' z=>by cases z; exact hr rfl⟩
  ·rename_i hn
   subst h'
   exact ⟨rfl,fun d z=>hn i d (by rw [z])⟩
section
variable {K : aa} {H0 H : Hp} {B0 : Addr->Prop} {σ : St} {δ : SS} {R : Nat->List Addr}
theorem RS.rewrite {Hold : Hp} {i : Nat} {d d' : D} {a : Addr} {o : HO} {v : V} {A' : List Addr} (h : RS K H0 B0 Hold σ δ R) (e : Same Hold H) (hi : δ[i]? = some (some (.ow d))) (hv : σ[i]? = some (some v)) (ha : a∈R i) (t : Tree K (upd H a o) d' v A') (nd : A'.Nodup) (sub : ∀ b∈A',b∈R i∨Hold b=none) :
  RS K H0 B0 (upd H a o) σ ((z0G i δ).set i (some (.ow d'))) (z9h R i A')∧Stp R Hold (z9h R i A') (upd H a o):=by
 have hm:=h.mono e
 obtain ⟨oa,ea,ma⟩:=hm.held i a ha
 have mH : Mut (H a):=by rw [ea]; exact ma
 have mem : ∀ r b,b∈z9h R i A' r->b∈R r∨(r=i∧Hold b=none):=fun r b z=>by
  by_cases hr : r=i
  ·subst hr; rw [z0V] at z; exact (sub b z).imp id fun q=>⟨rfl,q⟩
  ·rw [z1H hr] at z; exact .inl z
 have kt : KeepI K H (upd H a o):=(Keep.upd (K:=K) (B:=fun x=>x=a) rfl mH).i
 have nh : ∀ r b,b∈R r->Hold b=none->False:=fun r b z q=>by
  obtain ⟨u,q',_⟩:=h.held r b z
  rw [q] at q'; cases q'
 refine ⟨⟨fun b u q=>?_,h.inB,by simp [z0G,h.len],fun r b z=>?_,fun r b z=>?_,fun r s b z z'=>?_,fun j d2 z=>?_,fun j r2 d2 z=>?_,fun j d2 z=>?_⟩,⟨fun b u q n=>?_,fun r b z=>?_,fun b z=>?_⟩⟩
 ·have ne : b≠a:=fun z=>by subst z; rw [h.new i b ha] at q; cases q
  rw [z0A ne]; exact hm.keep b u q
 ·rcases mem r b z with z | ⟨_,z⟩
  ·exact h.new r b z
  ·exact h.keep.free z
 ·by_cases hr : r=i
  ·subst hr; rw [z0V] at z; exact t.held d' b z
  ·rw [z1H hr] at z
   have ne : b≠a:=fun q=>hr (h.disj r i b z (q ▸ ha))
   rw [z0A ne]; exact hm.held r b z
 ·rcases mem r b z with z | ⟨z1,z2⟩ <;> rcases mem s b z' with z' | ⟨z1',z2'⟩
  ·exact h.disj r s b z z'
  ·exact (nh r b z z2').elim
  ·exact (nh s b z' z2).elim
  ·rw [z1,z1']
 ·rcases z2D z with ⟨rfl,q,_⟩ | ⟨hj,q⟩
  ·cases q
  ·obtain ⟨q1,_⟩:=z4v q
   obtain ⟨w,e1,r⟩:=h.sh j d2 q1
   have r2:=(Rep.wide (C:=fun b=>Hold b=none) (fun _ z=>z) d2 r).mono e
   refine ⟨w,e1,Rep.anti ?_ d2 (Rep.keep (.upd (.inl (.inr ⟨i,ha⟩)) mH) d2 r2)⟩
   rintro b (z | ⟨r,z⟩)
   ·exact .inl (.inl z)
   ·rcases mem r b z with z | ⟨_,z⟩
    ·exact .inl (.inr ⟨r,z⟩)
    ·exact .inr z
 ·rcases z2D z with ⟨rfl,q,_⟩ | ⟨hj,q⟩
  ·cases q
  ·obtain ⟨q1,q2⟩:=z4v q
   have hr : i≠r2:=fun e=>q2 d2 (by rw [e])
   obtain ⟨w,e1,r⟩:=h.bo j r2 d2 q1
   have r3:=(Rep.wide (C:=fun b=>Hold b=none) (fun _ z=>z) d2 r).mono e
   refine ⟨w,e1,Rep.anti ?_ d2 (Rep.keep (.upd (.inl (.inr ⟨i,hr,ha⟩)) mH) d2 r3)⟩
   rintro b (z | ⟨s,hs,z⟩)
   ·exact .inl (.inl z)
   ·rcases mem s b z with z | ⟨_,z⟩
    ·exact .inl (.inr ⟨s,hs,z⟩)
    ·exact .inr z
 ·rcases z2D z with ⟨rfl,q,_⟩ | ⟨hj,q⟩
  ·cases q
   rw [z0V]
   exact ⟨v,hv,t,nd⟩
  ·obtain ⟨q1,_⟩:=z4v q
   obtain ⟨w,e1,t',nd'⟩:=hm.ow j d2 q1
   rw [z1H hj]
   refine ⟨w,e1,Tree.keep kt d2 t' fun b hb u q=>?_,nd'⟩
   have ne : b≠a:=fun z=>by subst z; exact hj (h.disj j i b hb ha)
   rw [z0A ne]; exact q
 ·have ne : b≠a:=fun z=>n i (z ▸ ha)
  rw [z0A ne]; exact e b u q
 ·rcases mem r b z with z | ⟨_,z⟩
  ·exact .inl ⟨r,z⟩
  ·exact .inr z
 ·by_cases hb : b=a
  ·subst hb; rw [z0s] at z; cases z
  ·rw [z0A hb] at z; exact e.free z
mutual
theorem Tree.flat : ∀ (d : D) {v : V} {A : List Addr},d.imm=true->Tree K H d v A->A=[]
 | .non,_,_,_,h=>h.2
 | .bl _,_,_,_,h=>h.2
 | .int _,_,_,_,h=>h.2
 | .str _,_,_,_,h=>h.2
 | .lst _,_,_,i,_=>by unfold D.imm at i; cases i
 | .dct _ _,_,_,i,_=>by unfold D.imm at i; cases i
 | .exc _,_,_,i,_=>by unfold D.imm at i; cases i
 | .obj _ _ _ _,_,_,i,_=>by unfold D.imm at i; cases i
 | .cel _ _,_,_,i,_=>by unfold D.imm at i; cases i
 | .tup ds,_,_,i,h=>by
  unfold D.imm at i
  unfold Tree at h
  obtain ⟨a,xs,_,_,r⟩:=h
  exact Trees.flat ds i r
 | .scr _,_,_,_,h=>h.2
theorem Trees.flat : ∀ (ds : List D) {xs : List V} {A : List Addr},z2z ds=true->Trees K H ds xs A->A=[]
 | [],_,_,_,h=>h.2
 | d :: ds,_,_,i,h=>by
  unfold z2z at i
  rw [aK] at i
  unfold Trees at h
  obtain ⟨x,r,C,C',rfl,h1,h2,rfl⟩:=h
  rw [Trees.flat ds i.2 h2,aG]
  exact Tree.flat d i.1 h1
end
theorem Trees.append : ∀ {ds es : List D} {xs ys : List V} {A C : List Addr},Trees K H ds xs A->Trees K H es ys C->Trees K H (ds ++ es) (xs ++ ys) (A ++ C)
 | [],_,_,_,_,_,h,h'=>by obtain ⟨rfl,rfl⟩:=h; exact h'
 | d :: ds,es,_,ys,_,C,h,h'=>by
  unfold Trees at h
  obtain ⟨y,r,A1,A2,rfl,h1,h2,rfl⟩:=h
  exact (show Trees K H (d :: (ds ++ es)) (y :: (r ++ ys)) (A1 ++ A2 ++ C) by unfold Trees; exact ⟨y,_,A1,A2 ++ C,rfl,h1,Trees.append h2 h',aL _ _ _⟩)
theorem Trees.split : ∀ {ds : List D} {xs : List V} {A : List Addr} (k : Nat),Trees K H ds xs A->∃ A1 A2,A=A1 ++ A2∧Trees K H (ds.take k) (xs.take k) A1∧Trees K H (ds.drop k) (xs.drop k) A2
 | ds,xs,A,0,h=>⟨[],A,rfl,by rw [cP,cP]; exact ⟨rfl,rfl⟩,h⟩
 | [],_,_,k + 1,h=>by
  obtain ⟨rfl,rfl⟩:=h
  exact ⟨[],[],rfl,⟨rfl,rfl⟩,⟨rfl,rfl⟩⟩
 | d :: ds,_,_,k + 1,h=>by
  unfold Trees at h
  obtain ⟨y,r,A1,A2,rfl,h1,h2,rfl⟩:=h
  obtain ⟨C1,C2,rfl,h3,h4⟩:=Trees.split k h2
  refine ⟨A1 ++ C1,C2,(aL _ _ _).symm,?_,h4⟩
  rw [cq,cq]
  unfold Trees
  exact ⟨y,_,A1,C1,rfl,h1,h3,rfl⟩
theorem Trees.one {d : D} {x : V} {A : List Addr} (h : Tree K H d x A) : Trees K H [d] [x] A:=by
 unfold Trees
 exact ⟨x,[],A,[],rfl,h,⟨rfl,rfl⟩,(aG _).symm⟩
theorem Trees.length : ∀ {ds : List D} {xs : List V} {A : List Addr},Trees K H ds xs A->ds.length=xs.length
 | [],_,_,h=>by obtain ⟨rfl,_⟩:=h; rfl
 | d :: ds,_,_,h=>by
  unfold Trees at h
  obtain ⟨x,r,_,_,rfl,_,h2,_⟩:=h
  simp [Trees.length h2]
theorem RS.top {i : Nat} {ds : List D} (h : RS K H0 B0 H σ δ R) (hi : δ[i]? = some (some (.ow (.lst ds)))) : ∃ a xs A,σ[i]? = some (some (.ref a))∧H a=some (.lst xs)∧Trees K H ds xs A∧R i=a :: A∧(a :: A).Nodup:=by
 obtain ⟨v,e,t,nd⟩:=h.ow i _ hi
 unfold Tree at t
 obtain ⟨a,xs,A,rfl,ha,ts,e2⟩:=t
 rw [e2] at nd
 exact ⟨a,xs,A,e,ha,ts,e2,nd⟩
theorem RS.put0 {Hold : Hp} {i : Nat} {ds ds' : List D} {a : Addr} {xs' : List V} {A A' : List Addr} (h : RS K H0 B0 Hold σ δ R) (e : Same Hold H) (hi : δ[i]? = some (some (.ow (.lst ds)))) (hv : σ[i]? = some (some (.ref a))) (hR : R i=a :: A) (nd : (a :: A).Nodup)
  (t : Trees K H ds' xs' A') (nd' : A'.Nodup) (sub : ∀ b∈A',b∈A∨Hold b=none) : RS K H0 B0 (upd H a (.lst xs')) σ ((z0G i δ).set i (some (.ow (.lst ds')))) (z9h R i (a :: A'))∧Stp R Hold (z9h R i (a :: A')) (upd H a (.lst xs')):=by
 have ha : a∈R i:=by rw [hR]; exact ac
 obtain ⟨oa,ea,ma⟩:=h.held i a ha
 have nA : ∀ b∈A',b≠a:=fun b hb z=>by
  rcases sub b hb with q | q
  ·exact (aE.mp nd).1 (z ▸ q)
  ·rw [z,ea] at q; cases q
 have mH : Mut (H a):=by rw [e a oa ea]; exact ma
 refine h.rewrite e hi hv ha ?_ (aE.mpr ⟨fun z=>nA a z rfl,nd'⟩) fun b hb=>?_
 ·unfold Tree
  refine ⟨a,xs',A',rfl,z0s,Trees.keep (Keep.upd (K:=K) (B:=fun x=>x=a) rfl mH).i ds' t fun b hb o q=>?_,rfl⟩
  rw [z0A (nA b hb)]; exact q
 ·rw [hR]
  rcases aj.mp hb with z | z
  ·rw [z]; exact .inl ac
  ·exact (sub b z).imp (af _) id
theorem Trees.set1 {es : List D} : ∀ {ds : List D} {xs : List V} {A : List Addr} (k : Nat),Trees K H ds xs A->A.Nodup->ds[k]? = some (.lst es)->z2z es=true →
  ∃ b ys,xs[k]? = some (.ref b)∧H b=some (.lst ys)∧b∈A∧Trees K H es ys []∧∀ es' ys',Trees K H es' ys' []->Trees K (upd H b (.lst ys')) (ds.set k (.lst es')) xs A
 | [],_,_,_,_,_,e,_=>by simp at e
 | d :: ds,_,_,0,h,nd,e,hi=>by
  simp at e
  subst e
  unfold Trees at h
  obtain ⟨x,r,A1,A2,rfl,h1,h2,rfl⟩:=h
  unfold Tree at h1
  obtain ⟨b,ys,C,rfl,hb,tb,rfl⟩:=h1
  have eC:=Trees.flat es hi tb
  subst eC
  have mH : Mut (H b):=by rw [hb]; exact trivial
  have kt : ∀ o,KeepI K H (upd H b o):=fun o=>(Keep.upd (K:=K) (B:=fun x=>x=b) (o:=o) rfl mH).i
  refine ⟨b,ys,rfl,hb,by simp,tb,fun es' ys' t'=>?_⟩
  rw [cZ]
  unfold Trees
  refine ⟨.ref b,r,[b],A2,rfl,?_,Trees.keep (kt _) ds h2 fun c hc o q=>?_,rfl⟩
  ·unfold Tree
   exact ⟨b,ys',[],rfl,z0s,Trees.keep (kt _) es' t' (fun c hc=>nomatch hc),rfl⟩
  ·have ne : c≠b:=fun z=>(aE.mp nd).1 (by rw [← z]; exact hc)
   rw [z0A ne]; exact q
 | d :: ds,_,_,k + 1,h,nd,e,hi=>by
  unfold Trees at h
  obtain ⟨x,r,A1,A2,rfl,h1,h2,rfl⟩:=h
  have ndA:=aW.mp nd
  obtain ⟨b,ys,e1,hb,hbA,tb,up⟩:=Trees.set1 k h2 ndA.2.1 (by simpa using e) hi
  refine ⟨b,ys,by simpa using e1,hb,aO _ hbA,tb,fun es' ys' t'=>?_⟩
  have mH : Mut (H b):=by rw [hb]; exact trivial
  have kt : KeepI K H (upd H b (.lst ys')):=(Keep.upd (K:=K) (B:=fun x=>x=b) rfl mH).i
  rw [c3]
  unfold Trees
  refine ⟨x,r,A1,A2,rfl,Tree.keep kt d h1 fun c hc o q=>?_,up es' ys' t',rfl⟩
  have ne : c≠b:=fun z=>ndA.2.2 c hc b hbA z
  rw [z0A ne]; exact q
theorem RS.put1 {Hold : Hp} {i k : Nat} {ds es : List D} (h : RS K H0 B0 Hold σ δ R) (e : Same Hold H) (hi : δ[i]? = some (some (.ow (.lst ds)))) (hk : ds[k]? = some (.lst es)) (hm : z2z es=true) :
  ∃ a xs b ys,σ[i]? = some (some (.ref a))∧Hold a=some (.lst xs)∧xs[k]? = some (.ref b)∧Hold b=some (.lst ys)∧ds.length=xs.length∧Trees K H es ys []∧∀ es' ys',Trees K H es' ys' [] →
   RS K H0 B0 (upd H b (.lst ys')) σ ((z0G i δ).set i (some (.ow (.lst (ds.set k (.lst es')))))) (z9h R i (R i))∧Stp R Hold (z9h R i (R i)) (upd H b (.lst ys')):=by
 obtain ⟨a,xs,A,ev,ha,ts,eR,nd⟩:=h.top hi
 obtain ⟨b,ys,e1,hb,hbA,tb,_⟩:=Trees.set1 k ts (aE.mp nd).2 hk hm
 obtain ⟨b',ys',e1',hb',_,tb',up⟩:=Trees.set1 k (ts.mono e) (aE.mp nd).2 hk hm
 rw [e1] at e1'
 cases e1'
 refine ⟨a,xs,b,ys,ev,ha,e1,hb,ts.length,tb.mono e,fun es' zs t'=>?_⟩
 have hba : b∈R i:=by rw [eR]; exact af _ hbA
 have nba : a≠b:=fun z=>(aE.mp nd).1 (z ▸ hbA)
 refine h.rewrite e hi ev hba ?_ (by rw [eR]; exact nd) fun c hc=>.inl hc
 rw [eR]
 unfold Tree
 exact ⟨a,xs,A,rfl,by rw [z0A nba]; exact e _ _ ha,up es' zs t',rfl⟩
end
end L2
namespace L2
open PySem PySem.Spec PyProof.Rows
instance {i j : Int} : Decidable (CDiv i j):=by unfold CDiv; infer_instance
instance {i j : Int} : Decidable (CPow i j):=by unfold CPow; infer_instance
instance {i j : Int} : Decidable (CMul i j):=by unfold CMul; infer_instance
def LM (K : aa) (r : V->List V->Hp->VK->Prop) (F : List D->List D->Option (List D)) : Prop:=
 ∀ (H : Hp) (a : Addr) (xs : List V) (ds args : List D) (vs : List V) (ds' : List D) (Q : VK),H a=some (.lst xs)->ds.length=xs.length->Reps K H noB args vs->F ds args=some ds' →
  (∀ (w : V) (xs' : List V),(∀ (H2 : Hp) (A C : List Addr),Trees K H2 ds xs A->Trees K H2 args vs C->∃ A',Trees K H2 ds' xs' A'∧((A ++ C).Nodup->A'.Nodup)∧∀ b∈A',b∈A∨b∈C)->Q w (upd H a (.lst xs')))->r (.ref a) vs H Q
def y4g : List D->List D->Option (List D):=fun ds args=>match args with
 | [d]=>if ds.length < sizeLine then some (ds ++ [d]) else none
 | _=>none
theorem z6P {K : aa} : LM K y0Z y4g:=by
 intro H a xs ds args vs ds' Q ha hl hr q k
 unfold y4g at q
 split at q
 ·rename_i d
  split at q
  ·rename_i hz
   cases q
   obtain ⟨y,rfl,ry⟩:=z7p hr
   refine ⟨a,xs,y,rfl,rfl,ha,by rw [← hl]; exact hz,k _ _ fun H2 A C t tc=>⟨A ++ C,t.append tc,fun z=>z,fun b hb=>ay.mp hb⟩⟩
  ·cases q
 ·cases q
def y3u (n : Nat) (i : Int) : Nat:=if i < 0 then (i + (n : Int)).toNat else min i.toNat n
def y7B : V->List V->Hp->VK->Prop:=fun x vs H Q=>∃ l xs i y,x = .ref l∧vs=[.int i,y]∧H l=some (.lst xs)∧xs.length < sizeLine∧-(2 ^ 63)≤i∧i < 2 ^ 63∧Q .non (upd H l (.lst (xs.take (y3u xs.length i) ++ y :: xs.drop (y3u xs.length i))))
theorem ins_arr (its : List Value) (k : Nat) (y : Value) : (its.toArray.extract 0 k).push y ++ its.toArray.extract k=(its.take k ++ y :: its.drop k).toArray:=by
 apply Array.ext'
 simp
 rw [bz (by simp)]
theorem y4T {X : Cx} : MtM X "list.insert" y7B:=by
 intro pins s σ H x vs v us Q I rx rv h
 obtain ⟨l,xs,i,y,rfl,rfl,hH,hz,h1,h2,q⟩:=h
 cases rx
 obtain ⟨u,w',rfl,⟨t,rfl⟩,ry⟩:=rv.two
 obtain ⟨z,its,n,r,hl,e⟩:=I.lstM hH
 have hfit : Builtin.List.listFitsIndex i=true:=fitsIndex_both h1 h2
 refine call_meets F.slot_list_insert ⟨_,e,rfl⟩ F.entry_list_insert (F.args_list_insert_3 _ _ _)
  (AutoSeq1.list_insert_list_int_val_1 l its.toArray n i t w' (by rw [hfit]; decide) (by rw [aD]; omega)) ⟨e,?_⟩
 refine ⟨.non,_,I.lset (its':=its.take (y3u its.length i) ++ w' :: its.drop (y3u its.length i)) (ys:=xs.take (y3u xs.length i) ++ y :: xs.drop (y3u xs.length i)) hH e ?_ ?_ ?_,rfl,q⟩
 ·show (its.toArray.extract 0 (if i < 0 then (i + (its.toArray.size : Int)).toNat else min i.toNat its.toArray.size)).push w' ++ its.toArray.extract (if i < 0 then (i + (its.toArray.size : Int)).toNat else min i.toNat its.toArray.size)=_
  rw [ins_arr,aD]
  rfl
 ·rw [← hl]
  exact (r.take _).append (.cons ry (r.drop _))
 ·have : y3u xs.length i≤xs.length∨¬ y3u xs.length i≤xs.length:=Decidable.em _
  simp only [aH,dq,bb,dv]
  omega
def insF : List D->List D->Option (List D):=fun ds args=>match args with
 | [.int i,d]=>if ds.length < sizeLine∧-(2 ^ 63)≤i∧i < 2 ^ 63 then some (ds.take (y3u ds.length i) ++ d :: ds.drop (y3u ds.length i)) else none
 | _=>none
theorem y4J {A1 A2 C : List Addr} (h : (A1 ++ A2 ++ C).Nodup) : (A1 ++ (C ++ A2)).Nodup:=by
 have p : (A1 ++ A2 ++ C).Perm (A1 ++ (C ++ A2)):=by
  rw [aL]
  exact List.Perm.append_left _ bK
 exact p.nodup_iff.mp h
theorem y6q {K : aa} : LM K y7B insF:=by
 intro H a xs ds args vs ds' Q ha hl hr q k
 unfold insF at q
 split at q
 ·rename_i i d
  split at q
  ·rename_i hz
   cases q
   obtain ⟨v,y,rfl,rv,ry⟩:=reps2 hr
   cases (show v=V.int i from rv)
   refine ⟨a,xs,i,y,rfl,rfl,ha,by rw [← hl]; exact hz.1,hz.2.1,hz.2.2,k _ _ fun H2 A C t tc=>?_⟩
   rw [← hl]
   obtain ⟨A1,A2,rfl,t1,t2⟩:=t.split (y3u ds.length i)
   unfold Trees at tc
   obtain ⟨x1,r1,C1,C2,e1,h1,h2,rfl⟩:=tc
   cases e1
   obtain ⟨_,eC1⟩:=(show V.int i=V.int i∧C1=[] from h1)
   subst eC1
   unfold Trees at h2
   obtain ⟨x2,r2,C3,C4,e2,h3,h4,rfl⟩:=h2
   cases e2
   obtain ⟨_,rfl⟩:=h4
   refine ⟨A1 ++ (C3 ++ A2),t1.append ?_,fun z=>?_,fun b hb=>?_⟩
   ·unfold Trees
    exact ⟨_,_,C3,A2,rfl,h3,t2,rfl⟩
   ·simp only [cj,aG] at z
    exact y4J z
   ·simp only [cj,aG,ay] at hb ⊢
    rcases hb with z | z | z
    ·exact .inl (.inl z)
    ·exact .inr z
    ·exact .inl (.inr z)
  ·cases q
 ·cases q
section
variable {X : Cx} {H0 : Hp} {B0 : Addr->Prop} {fr : Bool} {RX : XR} {e e2 : Expr} {es : List Expr} {pos ap cp : Pos} {x name : Str} {px p2 : Pos} {bid : String} {r : V->List V->Hp->VK->Prop} {F : List D->List D->Option (List D)} {fl : List DE}
def m0 (i : Nat) (F : List D->List D->Option (List D)) (fl : List DE) : SS->Option Out:=fun δ=>(z0o fl (z0v δ)).bind fun args=>if z2z args=true then (match δ[i]? with
 | some (some (.ow (.lst ds)))=>(F ds args).map fun ds'=>.nx ((z0G i δ).set i (some (.ow (.lst ds'))))
 | _=>none) else none
theorem m0_core {i : Nat} {to : TE} (hL : LM X.K r F) (hto : to=y3i i) (D : Ends) (σ : St) (H : Hp) (h : tS X.K H0 B0 fr RX (m0 i F fl) D σ H) : tDrop (tBM X.K "list" r to (tDs X.K (z0o fl))) D σ H:=by
 subst hto
 obtain ⟨δ,R,o,rs,q,k⟩:=h
 unfold m0 at q
 cases e1 : z0o fl (z0v δ) with
 | none=>rw [e1] at q; cases q
 | some args=>
  rw [e1] at q
  have q : (if z2z args=true then (match δ[i]? with | some (some (.ow (.lst ds)))=>(F ds args).map fun ds'=>Out.nx ((z0G i δ).set i (some (.ow (.lst ds')))) | _=>none) else none)=some o:=q
  split at q
  case isFalse=>cases q
  case isTrue hi=>
  split at q
  case h_2=>cases q
  case h_1 ds ei=>
  cases e2 : F ds args with
  | none=>rw [e2] at q; cases q
  | some ds'=>
   rw [e2] at q
   cases q
   obtain ⟨a,xs,A,ev,ha,ts,eR,nd⟩:=rs.top ei
   refine ⟨.ref a,ev,.inl ⟨rfl,xs,SqL.of ha⟩,noB,z0v δ,args,.no,rs.all,e1,fun vs H2 s2 r2=>?_⟩
   refine hL H2 a xs ds args vs ds' _ (s2 _ _ ha) ts.length r2 e2 fun w xs' up=>?_
   obtain ⟨A',t',n',sub⟩:=up H2 A [] (ts.mono s2) (r2.immTree args hi)
   have P:=rs.put0 s2 ei ev eR nd t' (n' (by rw [aG]; exact (aE.mp nd).2)) fun b hb=>(sub b hb).imp id (fun z=>nomatch z)
   exact k σ _ _ P.1 P.2
theorem s_m0 {i : Nat} (slot : Slot "list" name bid) (hty : typeOf (.builtin bid)=pure (.type "method_descriptor")) (hm : MtM X bid r) (hL : LM X.K r F) (hx : PE X (.Name x px) (y3i i)) (ha : PAD X (e :: es) fl)
  (hbase : attributeBase (.Name x px) name X.env (eval (.Name x px) X.env)=eval (.Name x px) X.env:=by rfl)
  (hfew : ((backTo cp (starEach (e :: es) X.env)).all (fun x=>!x.1) && (backToKw cp (keywordEach [] X.env)).all (fun x=>x.1.isSome) && decide ((e :: es).length + ([] : List Keyword).length + (if ([] : List Keyword).isEmpty then 0 else 1) < 30))=true:=by rfl)
  (hline : (ap.endLine == cp.line)=true:=by rfl) (hs : starEach (e :: es) X.env=(false,eval e X.env) :: starEach es X.env:=by rfl) (hplain : (backTo cp (starEach es X.env)).any (·.1)=false:=by rfl)
  (hsw : swapsWith (.Call (.Attribute (.Name x px) name ap) (e :: es) [] cp) none pos.line X.env=pure false:=by rfl) :
  PS X (.Expr (.Call (.Attribute (.Name x px) name ap) (e :: es) [] cp) pos) (tS X.K H0 B0 fr RX (m0 i F fl)):=
 PS.imp (z7r (y7H PySem.F.plainAttrs_list slot hty hm hx ha hbase hfew hline hs hplain) hsw) (m0_core hL rfl)
def m1 (i : Nat) (fk : DE) (F : List D->List D->Option (List D)) (fl : List DE) : SS->Option Out:=fun δ=>(fk (z0v δ)).bind fun dk=>match dk with
 | .int k=>(z0o fl (z0v δ)).bind fun args=>if z2z args=true then (match δ[i]? with
  | some (some (.ow (.lst ds)))=>(ixN ds.length k).bind fun j=>match ds[j]? with
   | some (.lst es)=>if z2z es=true then (F es args).bind fun es'=>if z2z es'=true then some (.nx ((z0G i δ).set i (some (.ow (.lst (ds.set j (.lst es'))))))) else none else none
   | _=>none
  | _=>none) else none
 | _=>none
def st0 (i : Nat) (fk fv : DE) : SS->Option Out:=fun δ=>(fv (z0v δ)).bind fun d=>if d.imm=true then (fk (z0v δ)).bind fun dk=>(match dk,δ[i]? with
 | .int k,some (some (.ow (.lst ds)))=>(ixN ds.length k).map fun j=>.nx ((z0G i δ).set i (some (.ow (.lst (ds.set j d)))))
 | _,_=>none) else none
def st1 (i : Nat) (fk fj fv : DE) : SS->Option Out:=fun δ=>(fv (z0v δ)).bind fun d=>if d.imm=true then (fk (z0v δ)).bind fun dk=>(fj (z0v δ)).bind fun dj=>(match dk,dj,δ[i]? with
 | .int k,.int j,some (some (.ow (.lst ds)))=>(ixN ds.length k).bind fun k'=>(match ds[k']? with
  | some (.lst es)=>if z2z es=true then (ixN es.length j).map fun j'=>.nx ((z0G i δ).set i (some (.ow (.lst (ds.set k' (.lst (es.set j' d))))))) else none
  | _=>none)
 | _,_,_=>none) else none
end
end L2
namespace L2
open PySem PySem.Spec PyProof.Rows
theorem Trees.setI {K : aa} {H : Hp} {d : D} {y : V} (ty : Tree K H d y []) : ∀ {ds : List D} {xs : List V} {A : List Addr} (j : Nat),Trees K H ds xs A->∃ A',Trees K H (ds.set j d) (xs.set j y) A'∧A'.Sublist A
 | [],_,_,_,h=>by
  obtain ⟨rfl,rfl⟩:=h
  exact ⟨[],⟨rfl,rfl⟩,List.Sublist.refl _⟩
 | e :: ds,_,_,0,h=>by
  unfold Trees at h
  obtain ⟨x,r,A1,A2,rfl,h1,h2,rfl⟩:=h
  refine ⟨A2,?_,List.sublist_append_right _ _⟩
  rw [cZ,cZ]
  unfold Trees
  exact ⟨y,r,[],A2,rfl,ty,h2,rfl⟩
 | e :: ds,_,_,k + 1,h=>by
  unfold Trees at h
  obtain ⟨x,r,A1,A2,rfl,h1,h2,rfl⟩:=h
  obtain ⟨A',t,sb⟩:=Trees.setI ty k h2
  refine ⟨A1 ++ A',?_,List.Sublist.append_left sb _⟩
  rw [c3,c3]
  unfold Trees
  exact ⟨x,_,A1,A',rfl,h1,t,rfl⟩
section
variable {X : Cx} {H0 : Hp} {B0 : Addr->Prop} {fr : Bool} {RX : XR} {e ke je : Expr} {pos : Pos} {x : Str} {px p2 p3 : Pos}
theorem s_st0 {i : Nat} {fk fv : DE} (hx : PE X (.Name x px) (y3i i)) (hk : PD X ke fk) (hv : PD X e fv)
  (ha : ∀ v,assign (.Subscript (.Name x px) ke p2) X.env v=(do
   let ov ← holding [v] (eval (.Name x px) X.env)
   let iv ← holding [v,ov] (eval ke X.env)
   standAt p2
   holding [v,ov,iv] (setItem ov iv v)
   release [v,ov,iv] []):=by intro _; rfl)
  (hs : swapsWithSole [.Subscript (.Name x px) ke p2] e pos.line X.env=pure false:=by rfl) (hw : swappedStores [.Subscript (.Name x px) ke p2] e X.env=pure none:=by rfl)
  (h1 : (assignEach [.Subscript (.Name x px) ke p2] X.env).map (·.2)=[assign (.Subscript (.Name x px) ke p2) X.env]:=by rfl) :
  PS X (.Assign [.Subscript (.Name x px) ke p2] e pos) (tS X.K H0 B0 fr RX (st0 i fk fv)):=
 PS.imp (y9J hv (x0e hx hk y2s ha) hs hw h1) fun D σ H ⟨δ,R,o,rs,q,kk⟩=>by
  unfold st0 at q
  cases e1 : fv (z0v δ) with
  | none=>rw [e1] at q; cases q
  | some d=>
  rw [e1] at q
  have q : (if d.imm=true then (fk (z0v δ)).bind fun dk=>(match dk,δ[i]? with
   | .int k,some (some (.ow (.lst ds)))=>(ixN ds.length k).map fun j=>Out.nx ((z0G i δ).set i (some (.ow (.lst (ds.set j d)))))
   | _,_=>none) else none)=some o:=q
  split at q
  case isFalse=>cases q
  case isTrue hi=>
  cases e2 : fk (z0v δ) with
  | none=>rw [e2] at q; cases q
  | some dk=>
  rw [e2] at q
  simp only [am] at q
  split at q
  case h_2=>cases q
  case h_1=>
  rename_i k ds ei
  cases ej : ixN ds.length k with
  | none=>rw [ej] at q; cases q
  | some j=>
  rw [ej] at q
  cases q
  obtain ⟨a,xs,A,ev,ha',ts,eR,nd⟩:=rs.top ei
  refine ⟨noB,z0v δ,d,.no,rs.all,e1,fun v H1 s1 r1=>⟨.ref a,ev,noB,z0v δ,.int k,.no,rs.all.mono s1,e2,fun v2 H2 s2 r2=>?_⟩⟩
  cases (show v2=V.int k from r2)
  refine ⟨a,xs,k,j,rfl,rfl,s2 _ _ (s1 _ _ ha'),by rw [← ts.length]; exact ej,?_⟩
  obtain ⟨A',t',sb⟩:=Trees.setI ((r1.immTree d hi).mono s2) j (ts.mono (s1.trans s2))
  have P:=rs.put0 (s1.trans s2) ei ev eR nd t' ((aE.mp nd).2.sublist sb) fun b hb=>.inl (sb.subset hb)
  exact kk σ _ _ P.1 P.2
theorem s_st1 {i : Nat} {fk fj fv : DE} (hx : PE X (.Name x px) (y3i i)) (hk : PD X ke fk) (hj : PD X je fj) (hv : PD X e fv) (hpi : z7a ke:=by intro _ _; rfl)
  (ha : ∀ v,assign (.Subscript (.Subscript (.Name x px) ke p3) je p2) X.env v=(do
   let ov ← holding [v] (eval (.Subscript (.Name x px) ke p3) X.env)
   let iv ← holding [v,ov] (eval je X.env)
   standAt p2
   holding [v,ov,iv] (setItem ov iv v)
   release [v,ov,iv] []):=by intro _; rfl)
  (hs : swapsWithSole [.Subscript (.Subscript (.Name x px) ke p3) je p2] e pos.line X.env=pure false:=by rfl) (hw : swappedStores [.Subscript (.Subscript (.Name x px) ke p3) je p2] e X.env=pure none:=by rfl)
  (h1 : (assignEach [.Subscript (.Subscript (.Name x px) ke p3) je p2] X.env).map (·.2)=[assign (.Subscript (.Subscript (.Name x px) ke p3) je p2) X.env]:=by rfl) :
  PS X (.Assign [.Subscript (.Subscript (.Name x px) ke p3) je p2] e pos) (tS X.K H0 B0 fr RX (st1 i fk fj fv)):=
 PS.imp (y9J hv (x0e (y8M ix_list hx hk hpi) hj y2s ha) hs hw h1) fun D σ H ⟨δ,R,o,rs,q,kk⟩=>by
  unfold st1 at q
  cases e1 : fv (z0v δ) with
  | none=>rw [e1] at q; cases q
  | some d=>
  rw [e1] at q
  have q : (if d.imm=true then (fk (z0v δ)).bind fun dk=>(fj (z0v δ)).bind fun dj=>(match dk,dj,δ[i]? with
   | .int k,.int j,some (some (.ow (.lst ds)))=>(ixN ds.length k).bind fun k'=>(match ds[k']? with
    | some (.lst es)=>if z2z es=true then (ixN es.length j).map fun j'=>Out.nx ((z0G i δ).set i (some (.ow (.lst (ds.set k' (.lst (es.set j' d))))))) else none
    | _=>none)
   | _,_,_=>none) else none)=some o:=q
  split at q
  case isFalse=>cases q
  case isTrue hi=>
  cases e2 : fk (z0v δ) with
  | none=>rw [e2] at q; cases q
  | some dk=>
  cases e3 : fj (z0v δ) with
  | none=>rw [e2,e3] at q; cases q
  | some dj=>
  rw [e2,e3] at q
  simp only [am] at q
  split at q
  case h_2=>cases q
  case h_1=>
  rename_i k j ds ei
  cases ek : ixN ds.length k with
  | none=>rw [ek] at q; cases q
  | some k'=>
  rw [ek] at q
  have q : (match ds[k']? with
    | some (.lst es)=>if z2z es=true then (ixN es.length j).map fun j'=>Out.nx ((z0G i δ).set i (some (.ow (.lst (ds.set k' (.lst (es.set j' d))))))) else none
    | _=>none)=some o:=q
  split at q
  case h_2=>cases q
  case h_1 es ed=>
  split at q
  case isFalse=>cases q
  case isTrue hes=>
  cases ej : ixN es.length j with
  | none=>rw [ej] at q; cases q
  | some j'=>
  rw [ej] at q
  cases q
  obtain ⟨a,xs,b,ys,ev,ha',hxb,hb,hln,_,_⟩:=rs.put1 (.refl H) ei ed hes
  have hat : atI xs k=some (.ref b):=by
   unfold atI
   rw [← hln,ek]
   exact hxb
  refine ⟨noB,z0v δ,d,.no,rs.all,e1,fun v H1 s1 r1=>⟨.ref a,ev,noB,z0v δ,.int k,.no,rs.all.mono s1,e2,fun v2 H2 s2 r2=>?_⟩⟩
  cases (show v2=V.int k from r2)
  refine ⟨a,xs,k,.ref b,rfl,rfl,SqL.of (s2 _ _ (s1 _ _ ha')),hat,noB,z0v δ,.int j,.no,(rs.all.mono s1).mono s2,e3,fun v3 H3 s3 r3=>?_⟩
  cases (show v3=V.int j from r3)
  obtain ⟨a',xs',b',ys',ev',ha'',hxb',hb',_,tb,up⟩:=rs.put1 ((s1.trans s2).trans s3) ei ed hes
  rw [ev] at ev'; cases ev'
  rw [ha'] at ha''; cases ha''
  rw [hxb] at hxb'; cases hxb'
  rw [hb] at hb'; cases hb'
  refine ⟨b,ys,j,j',rfl,rfl,s3 _ _ (s2 _ _ (s1 _ _ hb)),by rw [← tb.length]; exact ej,?_⟩
  obtain ⟨A',t',sb⟩:=Trees.setI (((r1.immTree d hi).mono s2).mono s3) j' tb
  have eA : A'=[]:=List.sublist_nil.mp sb
  subst eA
  have P:=up _ _ t'
  exact kk σ _ _ P.1 P.2
end
section
variable {X : Cx} {e a b : Expr} {lo hi : Option Expr} {p2 pos : Pos}
def tO (K : aa) (f : DS->Option (Option Int)) : TO:=fun σ H Q=>∃ B δ o,InB B H∧RepS K H B σ δ∧f δ=some o∧∀ H',Same H H'->Q o H'
abbrev POD (X : Cx) (e : Option Expr) (f : DS->Option (Option Int)) : Prop:=PO X e (tO X.K f)
theorem PO.imp {eo : Option Expr} {t t' : TO} (h : PO X eo t) (w : ∀ σ H Q,t' σ H Q->t σ H Q) : PO X eo t':=fun pins s σ H Q I q=>h pins s σ H Q I (w σ H Q q)
def z2C : DS->Option (Option Int):=fun _=>some none
def z6b (f : DE) : DS->Option (Option Int):=fun δ=>match f δ with
 | some (.int i)=>some (some i)
 | _=>none
theorem z2v : POD X none z2C:=po_none.imp fun σ H Q ⟨B,δ,o,hB,S,q,k⟩=>by
 cases q
 exact k H (.refl H)
theorem z2q {f : DE} (h : PD X e f) : POD X (some e) (z6b f):=(po_some h).imp fun σ H Q ⟨B,δ,o,hB,S,q,k⟩=>by
 unfold z6b at q
 split at q
 ·rename_i i e1
  cases q
  exact ⟨B,δ,.int i,hB,S,e1,fun v H' s r=>⟨i,r,k H' s⟩⟩
 ·cases q
def z8O (ds : List D) (lo hi : Option Int) : List D:=(ds.drop (HT.sIx ds.length 0 lo)).take (HT.sIx ds.length ds.length hi - HT.sIx ds.length 0 lo)
def y2z (f : DE) (fl fh : DS->Option (Option Int)) : DS->Option (List D):=fun δ=>match f δ with
 | some (.lst ds)=>(fl δ).bind fun lo=>(fh δ).map fun hi=>z8O ds lo hi
 | some (.scr ns)=>(fl δ).bind fun lo=>(fh δ).map fun hi=>z8O (ns.map .int) lo hi
 | _=>none
theorem z2s {f : DE} {fl fh : DS->Option (Option Int)} (he : PD X e f) (hl : POD X lo fl) (hh : POD X hi fh) : PF X (.Subscript e (.Slice lo hi none p2) pos) (y2z f fl fh):=(y7S sl_list he hl hh).imp fun σ H Q ⟨B,δ,ds',hB,S,q,k⟩=>by
 unfold y2z at q
 have core : ∀ (d : D) (ds : List D),f δ=some d->((fl δ).bind fun lo=>(fh δ).map fun hi=>z8O ds lo hi)=some ds'->(∀ v H1,Rep X.K H1 B d v->∃ a xs,v = .ref a∧(∀ H2,Same H1 H2->SqL X.K H2 a xs)∧Reps X.K H1 B ds xs) →
   tSl (rSlL X.K) (tD X.K f) (tO X.K fl) (tO X.K fh) σ H Q:=by
  intro d ds e1 q get
  cases e2 : fl δ with
  | none=>rw [e2] at q; cases q
  | some l=>
  cases e3 : fh δ with
  | none=>rw [e2,e3] at q; cases q
  | some u=>
  rw [e2,e3] at q
  cases q
  refine ⟨B,δ,_,hB,S,e1,fun v H1 s1 r1=>⟨B,δ,l,hB.mono s1,S.mono s1,e2,fun H2 s2=>⟨B,δ,u,(hB.mono s1).mono s2,(S.mono s1).mono s2,e3,fun H3 s3=>?_⟩⟩⟩
  obtain ⟨a,xs,rfl,hq,rs⟩:=get v H1 r1
  refine ⟨a,xs,rfl,hq H3 (s2.trans s3),fun p hp=>?_⟩
  have sa:=z0t (o:=.lst (cutV xs l u)) hp
  refine k p _ _ (((s1.trans s2).trans s3).trans sa) ((s1.trans (s2.trans s3)).free hp) z0s ?_
  unfold z8O cutV
  rw [rs.length]
  exact ((rs.drop _).take _).mono ((s2.trans s3).trans sa)
 split at q
 case h_3=>cases q
 case h_1 ds e1=>
  refine core _ ds e1 q fun v H1 r1=>?_
  unfold Rep at r1
  obtain ⟨a,xs,rfl,_,hq,rs⟩:=r1
  exact ⟨a,xs,rfl,fun H2 s2=>SqL.of (s2 _ _ hq),rs⟩
 case h_2 ns e1=>
  refine core _ (ns.map .int) e1 q fun v H1 r1=>?_
  unfold Rep at r1
  obtain ⟨a,rfl,hq⟩:=r1
  exact ⟨a,_,rfl,fun H2 s2=>(s2.sf hq).sq,z3x ns⟩
end
section
variable {X : Cx} {pos : Pos} {x : Str} {iter elt : Expr} {N' : List Str} {sc : Scope} {ifs : List Expr} {n : Nat} {px : Pos} {fi : DS->Option (List D)} {fc : DS->Option Bool} {fe : DE}
theorem y2S {σ : St} {H : Hp} {Q : VK} (hσ : σ.length=n) (hq : tN X.K (mkL (z1U fi fc fe)) σ H Q) : y3H (tI X.K fi) (z2Z n) (tT X.K fc) (tN X.K fe) 1 σ H Q:=by
 obtain ⟨δ,d0,Sδ,q,k⟩:=hq
 unfold mkL at q
 cases eds : z1U fi fc fe δ with
 | none=>rw [eds] at q; cases q
 | some ds=>
 rw [eds] at q
 cases q
 unfold z1U at eds
 cases e1 : fi δ with
 | none=>rw [e1] at eds; cases eds
 | some xs=>
 rw [e1] at eds
 have q1 : (if xs.length≤sizeLine then z1Z (fun x=>(fc (δ ++ [some x])).bind fun k=>if k=true then (fe (δ ++ [some x])).map some else some none) xs else none)=some ds:=eds
 split at q1
 case isFalse=>cases q1
 case isTrue hsz=>
 refine ⟨noB,δ,xs,.no,Sδ,e1,fun J H1 s1 itw=>fun Da hD=>?_⟩
 have hD0 : H Da=none:=s1.free hD
 have it:=itw (fun a=>H1 a=none) fun a ha=>ha
 refine ⟨fun i m σ' H'=>m=xs.length - i∧i≤xs.length∧(∃ w,σ'=σ ++ [w])∧Same H1 H'∧∃ ys dn rs A,H' Da=some (.lst ys)∧Trees X.K H' dn ys A∧(Da :: A).Nodup∧(∀ a∈A,H1 a=none)∧ds=dn ++ rs∧dn.length≤i ∧
  z1Z (fun x=>(fc (δ ++ [some x])).bind fun k=>if k=true then (fe (δ ++ [some x])).map some else some none) (xs.drop i)=some rs,
  ⟨xs.length,by simp,bu _,⟨none,rfl⟩,z0t hD,[],[],ds,[],z0s,.nil,aE.mpr ⟨(fun z=>nomatch z),bh⟩,(fun a z=>nomatch z),rfl,ar _,q1⟩,?_⟩
 rintro i m σ' H' ⟨rfl,hi',⟨w,rfl⟩,sm,ys,dn,rs,A,hys,tys,nd,fr,hds,hln,hrs⟩
 have kp : Keep X.K (fun a=>noB a∨H1 a=none) H1 H':=.same sm
 by_cases hlt : i < xs.length
 ·refine .inr ⟨it.go i H' kp hlt,fun σ'' H''=>(i + 1≤xs.length∧(∃ w,σ''=σ ++ [w])∧Same H1 H''∧∃ ys dn rs A,H'' Da=some (.lst ys)∧Trees X.K H'' dn ys A∧(Da :: A).Nodup∧(∀ a∈A,H1 a=none)∧ds=dn ++ rs∧dn.length≤i + 1 ∧
   z1Z (fun x=>(fc (δ ++ [some x])).bind fun k=>if k=true then (fe (δ ++ [some x])).map some else some none) (xs.drop (i + 1))=some rs),fun σ'' H'' h=>⟨xs.length - (i + 1),by omega,rfl,h⟩,fun xv H2 hy=>?_⟩
  obtain ⟨s2,d,hd,rd⟩:=it.yld i H' xv H2 kp hy
  have hdi:=hd hlt
  have hx : xs.drop i=d :: xs.drop (i + 1):=by
   obtain ⟨hl,e⟩:=aU.mp hdi
   rw [bn hl,e]
  rw [hx] at hrs
  obtain ⟨o,rs',e2,e3,e4⟩:=z5V hrs
  show tT X.K fc ((σ ++ [w]).set n (some xv)) H2 _
  rw [← hσ,z6u]
  have S2 : RepS X.K H2 noB (σ ++ [some xv]) (δ ++ [some d]):=(((Sδ.mono s1).mono sm).mono s2).snoc (rd.anti fun a z=>z.elim)
  have hl2 : ys.length < sizeLine:=by
   have:=tys.length
   omega
  cases ec : fc (δ ++ [some d]) with
  | none=>rw [ec] at e2; cases e2
  | some kk=>
   rw [ec] at e2
   have e2' : (if kk=true then (fe (δ ++ [some d])).map some else some none)=some o:=e2
   refine ⟨noB,δ ++ [some d],kk,.no,S2,ec,fun H3 s3=>?_⟩
   cases kk with
   | false=>
    rw [if_neg ax] at e2'
    rw [if_neg ax]
    cases e2'
    exact ⟨hlt,⟨_,rfl⟩,(sm.trans s2).trans s3,ys,dn,rs',A,s3 _ _ (s2 _ _ hys),(tys.mono s2).mono s3,nd,fr,by rw [hds,e4]; rfl,dg hln,e3⟩
   | true=>
    rw [if_pos rfl] at e2'
    rw [if_pos rfl]
    cases ey : fe (δ ++ [some d]) with
    | none=>rw [ey] at e2'; cases e2'
    | some y=>
     rw [ey] at e2'
     cases e2'
     refine ⟨δ ++ [some d],y,S2.mono s3,ey,fun yv H5 A5 s5 t5 nd5 fr5=>⟨ys,s5 _ _ (s3 _ _ (s2 _ _ hys)),hl2,?_⟩⟩
     have s15 : Same H' H5:=(s2.trans s3).trans s5
     have hu : H5 Da=some (.lst ys):=s15 _ _ hys
     have mu : Mut (H5 Da):=by rw [hu]; exact trivial
     have hDa3 : H3 Da=some (.lst ys):=s3 _ _ (s2 _ _ hys)
     have nDa : Da ∉ A ++ A5:=fun z=>by
      rcases ay.mp z with z | z
      ·exact (aE.mp nd).1 z
      ·have:=fr5 Da z
       rw [hDa3] at this; cases this
     refine ⟨hlt,⟨_,rfl⟩,fun b u hb=>?_,ys ++ [yv],dn ++ [y],rs',A ++ A5,z0s,?_,aE.mpr ⟨nDa,?_⟩,fun a ha=>?_,by rw [hds,e4,aL]; rfl,by rw [aH]; simp; omega,e3⟩
     ·rw [z0A (z1s hb hD)]
      exact s15 _ _ (sm _ _ hb)
     ·refine Trees.keep (Keep.upd (K:=X.K) (B:=fun x=>x=Da) rfl mu).i _ ((tys.mono s15).snoc t5) fun b hb u q=>?_
      have ne : b≠Da:=fun z=>nDa (z ▸ hb)
      rw [z0A ne]; exact q
     ·refine aW.mpr ⟨(aE.mp nd).2,nd5,fun b hb c hc z=>?_⟩
      subst z
      obtain ⟨u,q,_⟩:=Trees.held _ tys b hb
      have:=fr5 b hc
      rw [(s2.trans s3) _ _ q] at this; cases this
     ·rcases ay.mp ha with z | z
      ·exact fr a z
      ·exact sm.free ((s2.trans s3).free (fr5 a z))
 ·have e : i=xs.length:=by omega
  subst e
  refine .inl ⟨it.stop _ H' kp (ar _),?_⟩
  rw [cb] at hrs
  cases hrs
  rw [aG] at hds
  subst hds
  refine k (.ref Da) H' (Da :: A) (s1.trans sm) ?_ nd fun a ha=>?_
  ·unfold Tree
   exact ⟨Da,ys,A,rfl,hys,tys,rfl⟩
  ·rcases aj.mp ha with z | z
   ·rw [z]; exact hD0
   ·exact s1.free (fr a z)
theorem y1C (hc : X.calm=true) (S : CompScope X.N X.env.scope.names N' 1 sc) (hn : n=X.N.length) (hi : PID X (.Name x px) iter fi)
  (hg : ∀ s H fp pins E,PG (z0w X N' sc s H fp pins E) (.Name x px) (z2Z n)) (ht : ∀ s H fp pins E,y3Q (z0w X N' sc s H fp pins E) ifs (tT X.K fc)) (he : ∀ s H fp pins E,PE (z0w X N' sc s H fp pins E) elt (tN X.K fe))
  (hs : ∀ x,foldedSetIterable iter X.env x=pure x:=by intro _; rfl) : PN X (.ListComp elt [⟨.Name x px,iter,ifs,0⟩] sc pos) (mkL (z1U fi fc fe)):=by
 intro pins s σ H Q I hq
 exact y1d hc S hi ⟨hg,ht,he⟩ hs pins s σ H Q I (y2S (by rw [hn,I.len]) hq)
theorem pas_cN {i : Nat} {y : Str} {py spos : Pos} (hN : X.N.Nodup) (hy : X.N[i]? = some y) (hyl : X.env.scope.names.lookup y=some .local) (hc : X.calm=true) (S : CompScope X.N X.env.scope.names N' 1 sc) (hn : n=X.N.length) (hi : PID X (.Name x px) iter fi)
  (hg : ∀ s H fp pins E,PG (z0w X N' sc s H fp pins E) (.Name x px) (z2Z n)) (ht : ∀ s H fp pins E,y3Q (z0w X N' sc s H fp pins E) ifs (tT X.K fc)) (he : ∀ s H fp pins E,PE (z0w X N' sc s H fp pins E) elt (tN X.K fe))
  (hsw : swapsWith (.ListComp elt [⟨.Name x px,iter,ifs,0⟩] sc pos) (some (.Name y py)) spos.line X.env=pure true:=by rfl) (hs : ∀ x,foldedSetIterable iter X.env x=pure x:=by intro _; rfl) :
  PS X (.Assign [.Name y py] (.ListComp elt [⟨.Name x px,iter,ifs,0⟩] sc pos) spos) (tAsg (tN X.K (mkL (z1U fi fc fe))) (z2Z i)):=by
 intro pins s σ H D I hq
 exact y6T hc S hN hy hyl hi ⟨hg,ht,he⟩ hsw hs pins s σ H D I (y2S (by rw [hn,I.len]) hq)
end
end L2
namespace L2
open PySem PySem.Spec PyProof.Rows
section
variable {X : Cx} {a b : Expr} {pos : Pos} {f g : DE}
def y4n : D->D->Option D:=iop fun i j=>some (.int (i + j))
def x0J : D->D->Option D:=iop fun i j=>if CMul i j then some (.int (i * j)) else none
def divI : D->D->Option D:=iop fun i j=>if CDiv i j then some (.int (i / j)) else none
def z6i : D->D->Option D:=iop fun i j=>if 0 < j then some (.int (i % j)) else none
def ltI : D->D->Option D:=iop fun i j=>some (.bl (decide (i < j)))
def leI : D->D->Option D:=iop fun i j=>some (.bl (decide (i≤j)))
def gtI : D->D->Option D:=iop fun i j=>some (.bl (decide (j < i)))
theorem z6k (ha : PD X a f) (hb : PD X b g) : PD X (.BinOp a .Add b pos) (d2 y4n f g):=y9o op_add o2_int0 ha hb
theorem y7b (ha : PD X a f) (hb : PD X b g) : PD X (.BinOp a .Mult b pos) (d2 x0J f g):=y9o op_mul y7C ha hb
theorem x0v (ha : PD X a f) (hb : PD X b g) : PD X (.BinOp a .FloorDiv b pos) (d2 divI f g):=y9o op_fdiv y7C ha hb
theorem z4c (ha : PD X a f) (hb : PD X b g) : PD X (.BinOp a .Mod b pos) (d2 z6i f g):=y9o op_mod y7C ha hb
theorem y8J (hu : X.A.units + 64 < cLine) (ha : PD X a f) (hb : PD X b g) : PD X (.Compare a [.Eq] [b] pos) (d2 eqD f g):=pd_cmp (x0c hu) o2_eq ha hb (z9P _)
theorem pt_lt (ha : PD X a f) (hb : PD X b g) : PTD X (.Compare a [.Lt] [b] pos) (z0F (d2 ltI f g)):=z5Z op_lt z6F ha hb (z9P _)
theorem pt_gt (ha : PD X a f) (hb : PD X b g) : PTD X (.Compare a [.Gt] [b] pos) (z0F (d2 gtI f g)):=z5Z op_gt z6F ha hb (z9P _)
theorem z4W (hu : X.A.units + 64 < cLine) (ha : PD X a f) (hb : PD X b g) : PTD X (.Compare a [.Eq] [b] pos) (z0F (d2 eqD f g)):=z5Z (x0c hu) o2_eq ha hb (z9P _)
theorem y9k (hu : X.A.units + 64 < cLine) (ha : PD X a f) (hb : PD X b g) : PTD X (.Compare a [.NotEq] [b] pos) (z0F (d2 neD f g)):=z5Z (op_neD hu) o2_ne ha hb (z9P _)
theorem pt_in (hu : X.A.units + 64 < cLine) (ha : PD X a f) (hb : PD X b g) (hm : behindInMarks .In b=false:=by rfl) : PTD X (.Compare a [.In] [b] pos) (z0F (d2 inD f g)):=z5Z (op_inD hu) o2_in ha hb hm
theorem z9E (hu : X.A.units + 64 < cLine) (ha : PD X a f) (hb : PD X b g) (hm : behindInMarks .NotIn b=false:=by rfl) : PTD X (.Compare a [.NotIn] [b] pos) (z0F (d2 y4m f g)):=z5Z (op_ninD hu) o2_nin ha hb hm
end
def y0D (H : Hp) (A : List Addr) : Hp:=fun a=>if a∈A then none else H a
theorem y3o {H : Hp} {A : List Addr} {a : Addr} (h : a∈A) : y0D H A a=none:=if_pos h
theorem z6W {H : Hp} {A : List Addr} {a : Addr} (h : a ∉ A) : y0D H A a=H a:=if_neg h
theorem y4f {H : Hp} {A : List Addr} : Same (y0D H A) H:=fun a o e=>by
 by_cases h : a∈A
 ·rw [y3o h] at e; cases e
 ·rw [z6W h] at e; exact e
section
variable {P : Program} {w : World} {K : aa} {mg : Str->Option Value} {base : Heap}
end
section
variable {X : Cx} {H0 : Hp} {B0 : Addr->Prop} {fr : Bool} {RX : XR} {e : Expr} {es : List Expr} {pos p px px2 cp : Pos} {x fn : Str} {k : Nat} {F : List D->Option D} {fl : List DE}
end
def y8g (K : aa) (F : List D->Option D) : Sp:=fun vs H Q _=>∃ (a : Addr) (ns : List Int),vs=[.ref a]∧SqF K H a (ns.map V.int)∧F [.scr ns]=some (.bl true)∧∀ H',Q (.bl true) H'
theorem y8u {K : aa} {H : Hp} {a : Addr} {xs : List V} (hO : Only H) (h : SqL K H a xs) : SqF K H a xs:=by
 rcases h with (h | h) | h
 ·rcases hO a with z | ⟨o,ys,z⟩ <;> (rw [h] at z; cases z)
 ·exact .inl h
 ·exact .inr h
theorem law_of {P : Program} {w : World} {K : aa} {mg : Str->Option Value} {base : Heap} {k : Nat} {f : Addr} {fd : FuncData} {ps : List Str} {F : List D->Option D} (h : FnOk P w K mg base CX0 k f fd ps (spN K F)) : FnOk P w K mg base CX0 k f fd ps (y8g K F):=by
 refine h.imp fun vs H Q E z=>?_
 obtain ⟨a,ns,rfl,hq,e,q⟩:=z
 refine ⟨[.scr ns],.bl true,.cons ?_ .nil,e,fun v H' A s t nd fr=>?_⟩
 ·unfold Rep
  exact ⟨a,rfl,hq⟩
 ·cases (show v=V.bl true∧_ from t).1
  exact q H'
end L2
namespace L2
open PySem PySem.Spec PyProof.Rows
section
variable {X : Cx} {H0 : Hp} {B0 : Addr->Prop} {fr : Bool} {RX : XR} {e e2 : Expr} {pos ap cp : Pos} {x : Str} {px : Pos} {f g : DE}
def y4Q (i : Nat) (f : DE) : SS->Option Out:=fun δ=>(f (z0v δ)).bind fun d=>(match δ[i]? with
 | some (some (.ow (.lst ds)))=>(y4g ds [d]).map fun ds'=>.nx ((z0G i δ).set i (some (.ow (.lst ds'))))
 | _=>none)
theorem y6o {i : Nat} (hx : PE X (.Name x px) (y3i i)) (he : PN X e f) (hbase : attributeBase (.Name x px) "append" X.env (eval (.Name x px) X.env)=eval (.Name x px) X.env:=by rfl)
  (hfew : ((backTo cp (starEach [e] X.env)).all (fun x=>!x.1) && (backToKw cp (keywordEach [] X.env)).all (fun x=>x.1.isSome) && decide ([e].length + ([] : List Keyword).length + (if ([] : List Keyword).isEmpty then 0 else 1) < 30))=true:=by rfl)
  (hline : (ap.endLine == cp.line)=true:=by rfl) (hs : starEach [e] X.env=(false,eval e X.env) :: starEach [] X.env:=by rfl) (hsw : swapsWith (.Call (.Attribute (.Name x px) "append" ap) [e] [] cp) none pos.line X.env=pure false:=by rfl) :
  PS X (.Expr (.Call (.Attribute (.Name x px) "append" ap) [e] [] cp) pos) (tS X.K H0 B0 fr RX (y4Q i f)):=
 PS.imp (z7r (y7H PySem.F.plainAttrs_list PySem.F.slot_list_append PySem.F.type_list_append z5o hx (z1l he pa_nil hs) hbase hfew hline hs rfl) hsw) fun D σ H ⟨δ,R,o,rs,q,k⟩=>by
  unfold y4Q at q
  cases e1 : f (z0v δ) with
  | none=>rw [e1] at q; cases q
  | some d=>
  rw [e1] at q
  simp only [am] at q
  split at q
  case h_2=>cases q
  case h_1=>
  rename_i ds ei
  cases e2 : y4g ds [d] with
  | none=>rw [e2] at q; cases q
  | some ds'=>
  rw [e2] at q
  cases q
  obtain ⟨a,xs,A,ev,ha,ts,eR,nd⟩:=rs.top ei
  refine ⟨.ref a,ev,.inl ⟨rfl,xs,SqL.of ha⟩,z0v δ,d,rs.all,e1,fun y H2 C s2 t2 nC fC=>?_⟩
  show y0Z (.ref a) [y] H2 fun _ H1=>D.nx σ H1
  refine z6P (K:=X.K) H2 a xs ds [d] [y] ds' _ (s2 _ _ ha) ts.length (.one (t2.rep d (fun _ _ z=>z.elim))) e2 fun w xs' up=>?_
  obtain ⟨A',t',n',sub⟩:=up H2 A C (ts.mono s2) (.one t2)
  have hAC : (A ++ C).Nodup:=aW.mpr ⟨(aE.mp nd).2,nC,fun b hb c hc z=>by
   subst z
   obtain ⟨u,q,_⟩:=Trees.held ds ts b hb
   rw [fC b hc] at q; cases q⟩
  have P:=rs.put0 s2 ei ev eR nd t' (n' hAC) fun b hb=>(sub b hb).imp id fun z=>fC b z
  exact k σ _ _ P.1 P.2
end
end L2
namespace L2
open PySem PySem.Spec PyProof.Rows
open PySem.MeetsSeq PySem.MeetsSeq2 PySem.MeetsSeq3 PySem.SeqRoads2 PySem.SeqAt
open PySem.AutoSeq1 (wpAny_loadPart')
section
variable {X : Cx}
variable {o e : Expr} {es : List Expr} {to : TE} {t : TA} {name : Str} {apos cpos : Pos} {id : String} {r : V->List V->Hp->VK->Prop}
theorem y9l : ∀ {ns : List Int} {its : List Value},Vals (ns.map V.int) its->∀ (k : Nat) (h : k < its.length),∃ t,∃ h2 : k < ns.length,its[k] = .int ns[k] t
 | [],_,.nil,_,h=>by simp at h
 | n :: ns,_,.cons r t,k,h=>by
  obtain ⟨u,rfl⟩:=r
  cases k with
  | zero=>exact ⟨u,by simp,rfl⟩
  | succ k=>
   obtain ⟨w,h2,e⟩:=y9l t k (by simpa using h)
   exact ⟨w,by simpa using h2,by simpa using e⟩
def isI (i : Int) : Value->Bool
 | .int k _=>k == i
 | _=>false
theorem y0a : ∀ {ds : List D} {ns : List Int},z4p ds=some ns->ds=ns.map D.int
 | [],ns,h=>by cases h; rfl
 | .int i :: r,ns,h=>by
  unfold z4p at h
  cases e : z4p r with
  | none=>rw [e] at h; cases h
  | some ms=>rw [e] at h; cases h; rw [aM,y0a e]
 | .non :: _,_,h=>by cases h
 | .bl _ :: _,_,h=>by cases h
 | .str _ :: _,_,h=>by cases h
 | .lst _ :: _,_,h=>by cases h
 | .tup _ :: _,_,h=>by cases h
 | .scr _ :: _,_,h=>by cases h
 | .dct _ _ :: _,_,h=>by cases h
 | .exc _ :: _,_,h=>by cases h
 | .obj _ _ _ _ :: _,_,h=>by cases h
 | .cel _ _ :: _,_,h=>by cases h
theorem y2h {K : aa} {H : Hp} {B : Addr->Prop} : ∀ {ns : List Int} {xs : List V},Reps K H B (ns.map D.int) xs->xs=ns.map V.int
 | [],_,h=>by unfold Reps at h; exact h
 | n :: ns,_,h=>by
  rw [aM] at h
  unfold Reps at h
  obtain ⟨x,r,rfl,h1,h2⟩:=h
  unfold Rep at h1
  rw [h1,y2h h2]
  rfl
end
end L2
namespace L2
open PySem PySem.Spec PyProof.Rows
open PySem.AutoSeq1 (wpAny_loadPart')
section
variable {prog : Program} {w : World} {A : Around} {E : Value->Shared->Prop} {s : Shared}
end
section
variable {X : Cx}
variable {a b : Expr} {f g : DE} {p p2 pos pos2 : Pos}
end
end L2
namespace L2
open PySem PySem.Spec PyProof.Rows
section
variable {X : Cx} {pins : List (Addr × Obj)} {σ : St} {H : Hp} {s : Shared} {h' : Heap}
theorem Inv.turnedL {t' : Nat} {fp : List Addr} (I : Inv X pins σ H s) (k : ∀ b o,b ∉ fp->s.heap.get? b=some o->h'.get? b=some o) (hf : ∀ b∈fp,y0A X pins H b) : Inv X pins σ H { s with heap:=h',toks:=t' }:=by
 have nit : ∀ b u,H b=some u->b ∉ fp:=fun b u e z=>by rw [(hf b z).1] at e; cases e
 have nL : X.env.locals ∉ fp:=fun z=>(hf _ z).2.1 rfl
 refine I.step (g':=s.gens) (d':=s.drawn) (ch:=fp) (fun b hb=>?_) (fun b o _ _ hc e _=>k b o hc e) (fun b o _ _ hc e _=>⟨o.slots,k b o hc e⟩) (fun _ _ _ _ n=>n)
  (fun b o hc e=>⟨o,k b o hc e⟩) (fun _ _ e=>e) (fun _ _ _ e=>e) (fun b ps e=>⟨#[],by rw [e]; simp⟩) (fun m hm=>?_) (fun b u e=>?_) I.bare
 ·obtain ⟨f0,f1,f2,f3,f4,f5⟩:=hf b hb
  exact ⟨f3,f1,f4,f5⟩
 ·obtain ⟨o,es,ep,ho,r⟩:=hm
  exact ⟨o,es,ep,k _ o nL ho,r⟩
 ·refine (I.hok b u e).stay (fun c v hc q=>k c v ?_ q) (fun _ q=>q) fun _ _ q=>q
  rcases hc with z | z
  ·rw [z]; exact nit b u e
  ·exact nit c _ z
def Ite (K : aa) (a : Addr) : It:=
 ⟨fun i H=>∃ xs x,SqL K H a xs∧xs[i]? = some x,fun i H v H'=>∃ p x,H p=none∧v = .ref p∧H'=upd H p (.tup [.int (i : Nat),x])∧∀ xs,SqL K H a xs->xs[i]? = some x,fun i H=>∃ xs,SqL K H a xs∧xs.length≤i⟩
theorem y5v {P : Program} {w : World} {K : aa} {elts : List Expr} {x1} {tp : Pos} (a e it : Addr) (hne : e≠it) :
  Turn P w K (.Tuple elts x1 tp) (Ite K a) [e,it] e (fun i h=>(∃ old,IsEnum h e it ((i : Nat) : Int) old)∧h.IsListIter it a i) where
 mem:=by simp
 obj:=fun i h st b hb=>by
  obtain ⟨⟨old,he⟩,o,eo,c,d⟩:=st
  rcases aj.mp hb with z | z
  ·subst z
   exact ⟨_,he,fun v z=>by cases z⟩
  ·have z : b=it:=by simpa using z
   subst z
   exact ⟨o,eo,fun v z=>by rw [d] at z; cases z⟩
 keep:=fun i h h' st k=>by
  obtain ⟨⟨old,he⟩,hi⟩:=st
  exact ⟨⟨old,k e (by simp) _ he⟩,hi.at fun o q=>k it (by simp) o q⟩
 item:=by
  intro X hP hw hK hc i pins s σ H E I hf st hg
  subst hP hw hK
  obtain ⟨xs,x,hq,hx⟩:=hg
  obtain ⟨its,rv,p,hz⟩:=I.list hq
  obtain ⟨u,hu,ru⟩:=rv.get hx
  obtain ⟨⟨old,he⟩,hi⟩:=st
  refine wpAny_pyNext_enum_item he hi p.isList (x:=u) (by simpa using hu) hne fun h1 heo hi1 ht1 hz1 hk1=>⟨_,rfl,?_⟩
  refine wpAny_letOwnedTupleGo_enum heo fun h2 he2 hs2=>?_
  have hs2 : Heap.SameBut e h1 h2:=hs2
  have elt : e < s.heap.objs.size:=Heap.lt_size he
  obtain ⟨oi,eoi,_⟩:=id hi
  have ilt : it < s.heap.objs.size:=Heap.lt_size eoi
  have hp : H s.heap.objs.size=none:=I.hok.fresh (ar _)
  have I1 : Inv X pins σ (upd H s.heap.objs.size (.tup [.int (i : Nat),x])) { s with heap:=s.heap.push { cls:=.type "tuple",data:=.seq #[.int (i : Nat) s.toks,u] },toks:=s.toks + 1 }:=
   I.laid (fun b o q=>Heap.get?_push_of_some _ q) (ar _) (show ObjOk X.prog X.w _ _ _ (.tup [.int (i : Nat),x]) from ⟨by show 2≤sizeLine; rw [sizeLine_eq]; decide,[.int (i : Nat) s.toks,u],.cons ⟨_,rfl⟩ (.cons ru .nil),TupN.new _ _⟩)
  have hf1 : ∀ b∈[e,it],y0A X pins (upd H s.heap.objs.size (.tup [.int (i : Nat),x])) b:=fun b hb=>by
   obtain ⟨f0,f⟩:=hf b hb
   refine ⟨?_,f⟩
   have : b≠s.heap.objs.size:=by
    rcases aj.mp hb with z | z
    ·rw [z]; exact aF elt
    ·have z : b=it:=by simpa using z
     rw [z]; exact aF ilt
   rw [z0A this]
   exact f0
  have kk : ∀ b o,b ∉ [e,it]->(s.heap.push { cls:=.type "tuple",data:=.seq #[.int (i : Nat) s.toks,u] }).get? b=some o->h2.get? b=some o:=by
   intro b o hb q
   have hbe : b≠e:=fun z=>hb (by simp [z])
   have hbi : b≠it:=fun z=>hb (by simp [z])
   rw [hs2.2 b hbe]
   by_cases hbs : b=s.heap.objs.size
   ·subst hbs
    rw [ht1]
    have : (s.heap.push { cls:=.type "tuple",data:=.seq #[.int (i : Nat) s.toks,u] }).get? s.heap.objs.size=some { cls:=.type "tuple",data:=.seq #[.int (i : Nat) s.toks,u] }:=Heap.get?_push_size _ rfl
    exact this.symm.trans q
   ·have q' : s.heap.get? b=some o:=(Heap.get?_push_ne s.heap _ _ hbs).symm.trans q
    exact hk1 b o hbe hbi q'
  have I2 : Inv X pins σ (upd H s.heap.objs.size (.tup [.int (i : Nat),x])) { s with heap:=h2,toks:=s.toks + 1 }:=Inv.turnedL (s:={ s with heap:=s.heap.push { cls:=.type "tuple",data:=.seq #[.int (i : Nat) s.toks,u] },toks:=s.toks + 1 }) (h':=h2) (t':=s.toks + 1) (fp:=[e,it]) I1 kk hf1
  refine ⟨.ref s.heap.objs.size,_,I2,rfl,⟨_,x,hp,rfl,rfl,fun ys hy=>by rw [I.list_inj hy hq]; exact hx⟩,⟨⟨u,?_⟩,?_⟩,fun b hb=>(hf1 b hb).1⟩
  ·have : (((i + 1 : Nat) : Int))=((i : Int) + 1):=by omega
   rw [this]
   exact he2
  ·exact hi1.at fun o q=>(hs2.2 it (Ne.symm hne)).trans q
 done:=by
  intro X hP hw hK hc i pins s σ H E I hf st hg
  subst hP hw hK
  obtain ⟨xs,hq,hx⟩:=hg
  obtain ⟨its,rv,p,hz⟩:=I.list hq
  obtain ⟨⟨old,he⟩,hi⟩:=st
  have hl:=rv.length
  exact wpAny_pyNext_enum_end (I.ok.hd hc) he hi p.isList (by simp; omega) fun h' eb=>⟨rfl,I.turnedL (t':=s.toks) (fp:=[e,it]) (fun b o hb q=>eb b o (fun z=>hb (by simp [z])) q) hf⟩
 self:=fun _ _ _ _ _ st h=>let ⟨⟨_,he⟩,_⟩:=st; wpAny_pyIter_enum he h
def iEnum (K : aa) (tl : TE) : TI:=fun σ H R=>tl σ H fun x H1=>∃ a,[x]=[V.ref a]∧(∃ xs,SqL K H1 a xs)∧R (Ite K a) H1
theorem pi_enum {elts : List Expr} {x1} {tp p pos : Pos} {l : Expr} {tl : TE} (hg : Gl X "enumerate") (hm : X.mg "enumerate" = none) (hl : PE X l tl) (hs : starEach [l] X.env=[(false,eval l X.env)]:=by rfl) :
  PI X (.Tuple elts x1 tp) (.Call (.Name "enumerate" p) [l] [] pos) (iEnum X.K tl):=by
 intro pins s σ H R I h
 have hA : PA X [l] (fun σ H Q=>tl σ H fun x H1=>Q [x] H1):=(z1l hl pa_nil (by rw [hs]; rfl)).imp fun σ H Q q=>q
 refine wpAny_Call_Name_kw (z4O I hg hm boot_enumerate (PyProof.Rows.callWith_type1 (thn (hA pos pins s σ H (fun vs H1=>∃ a,vs=[V.ref a]∧(∃ xs,SqL X.K H1 a xs)∧R (Ite X.K a) H1) I h) fun us s1 ⟨vs,H1,I1,r1,q1⟩=>?_) hs rfl))
 obtain ⟨a,rfl,⟨xs,hq⟩,q⟩:=q1
 obtain ⟨u,rfl,ru⟩:=r1.one
 cases ru
 obtain ⟨its,rv,pl,hz⟩:=I1.list hq
 refine call_enumerate_list pl.isList fun h1 he hi hsz kp=>?_
 refine wpAny_pyIter_enum he ?_
 have I2 : Inv X pins σ H1 { s1 with heap:=h1 }:=I1.kept (t':=s1.toks) kp
 refine ⟨s1.heap.objs.size + 1,[s1.heap.objs.size + 1,s1.heap.objs.size],_,_,H1,rfl,I2,y5v a _ _ (Nat.succ_ne_self _),⟨⟨_,he⟩,hi⟩,fun b hb=>?_,q⟩
 have hb' : s1.heap.objs.size≤b:=by
  rcases aj.mp hb with z | z
  ·rw [z]; exact eL _
  ·have z : b=s1.heap.objs.size:=by simpa using z
   rw [z]; exact ar _
 exact I1.fpOk hb' (I1.hok.fresh hb')
end
def z0u (k : Nat) : List D->List D
 | []=>[]
 | d :: r=>.tup [.int (k : Nat),d] :: z0u (k + 1) r
theorem y2b : ∀ {ds : List D} {k i : Nat},(z0u k ds)[i]? = (ds[i]?).map fun d=>.tup [.int ((k + i : Nat) : Int),d]
 | [],_,_=>by simp [z0u]
 | d :: r,k,0=>by simp [z0u]
 | d :: r,k,i + 1=>by
  show (z0u (k + 1) r)[i]? = (r[i]?).map _
  rw [y2b]
  congr 1
  funext d
  congr 3
  omega
theorem z8N : ∀ {ds : List D} {k : Nat},(z0u k ds).length=ds.length
 | [],_=>rfl
 | d :: r,k=>by show (z0u (k + 1) r).length + 1=r.length + 1; rw [z8N]
theorem y2U {K : aa} {H : Hp} {B : Addr->Prop} {a : Addr} {xs : List V} {ds : List D} (hs : ∀ H',Keep K B H H'->SqL K H' a xs) (r : Reps K H B ds xs) : ItD K (Ite K a) H B (z0u 0 ds):=by
 have hl:=r.length
 refine ⟨fun i H' kp hi=>?_,fun i H' kp hi=>?_,fun i H' v H2 kp hy=>?_⟩
 ·rw [z8N,hl] at hi
  exact ⟨xs,xs[i],hs H' kp,av hi⟩
 ·rw [z8N,hl] at hi
  exact ⟨xs,hs H' kp,hi⟩
 ·obtain ⟨p,x,hp,rfl,rfl,hx⟩:=hy
  have hx:=hx xs (hs H' kp)
  obtain ⟨d,e,rd⟩:=(Reps.keep kp ds r).get' hx
  refine ⟨z0t hp,.tup [.int (i : Nat),d],fun _=>by rw [y2b,e]; simp,?_⟩
  unfold Rep
  exact ⟨p,_,rfl,SqT.of z0s,.cons (by unfold Rep; rfl) (.one (rd.mono (z0t hp)))⟩
def z9K : D->Option (List D)
 | .lst ds=>some (z0u 0 ds)
 | .scr ns=>some (z0u 0 (ns.map .int))
 | _=>none
def z7F (f : DE) : DS->Option (List D):=fun δ=>(f δ).bind z9K
section
variable {X : Cx}
theorem z5t {elts : List Expr} {x1} {tp p pos : Pos} {l : Expr} {f : DE} (hg : Gl X "enumerate") (hm : X.mg "enumerate" = none) (h : PD X l f) (hs : starEach [l] X.env=[(false,eval l X.env)]:=by rfl) :
  PID X (.Tuple elts x1 tp) (.Call (.Name "enumerate" p) [l] [] pos) (z7F f):=(pi_enum hg hm h hs).imp fun σ H R ⟨B,δ,ds,hB,S,q,k⟩=>by
 unfold z7F at q
 cases e : f δ with
 | none=>rw [e] at q; cases q
 | some d=>
  rw [e] at q
  have q' : z9K d=some ds:=q
  refine ⟨B,δ,d,hB,S,e,fun v H1 s1 r1=>?_⟩
  unfold z9K at q'
  split at q'
  ·cases q'
   unfold Rep at r1
   obtain ⟨a,xs,rfl,n,h,r⟩:=r1
   refine ⟨a,rfl,⟨xs,SqL.of h⟩,k _ H1 s1 fun C hC=>?_⟩
   have na : ¬ (B a∨C a):=fun z=>z.elim n fun z=>by rw [hC a z] at h; cases h
   exact y2U (xs:=xs) (fun H' kp=>SqL.of (kp.sl a xs na h)) (Reps.wide hC _ r)
  ·cases q'
   unfold Rep at r1
   obtain ⟨a,rfl,h⟩:=r1
   exact ⟨a,rfl,⟨_,h.sq⟩,k _ H1 s1 fun C hC=>y2U (fun H' kp=>(kp.sf a _ h).sq) (z3x _)⟩
  ·cases q'
def two (h : D->D->Option (Option D)) : D->Option (Option D)
 | .tup [a,b]=>h a b
 | _=>none
def z3T (fc : DS->Option Bool) (fe : DE) (δ : DS) : D->D->Option (Option D):=fun a b=>(fc (δ ++ [some a,some b])).bind fun k=>if k=true then (fe (δ ++ [some a,some b])).map some else some none
def z4j (fi : DS->Option (List D)) (fc : DS->Option Bool) (fe : DE) : DS->Option (List D):=fun δ=>(fi δ).bind fun xs=>if xs.length≤sizeLine then z1Z (two (z3T fc fe δ)) xs else none
theorem y9A {h : D->D->Option (Option D)} {d : D} {o : Option D} (e : two h d=some o) : ∃ a b,d = .tup [a,b]∧h a b=some o:=by
 unfold two at e
 split at e
 ·exact ⟨_,_,rfl,e⟩
 ·cases e
theorem y0o {v1 v2 w1 w2 : Option V} : ∀ {σ : St},((σ ++ [w1,w2]).set σ.length v1).set (σ.length + 1) v2=σ ++ [v1,v2]
 | []=>rfl
 | x :: r=>congrArg (x :: ·) (y0o (σ:=r))
theorem RepS.snoc2 {K : aa} {H : Hp} {B : Addr->Prop} {σ : St} {δ : DS} {d e : D} {v w : V} (S : RepS K H B σ δ) (r : Rep K H B d v) (r' : Rep K H B e w) : RepS K H B (σ ++ [some v,some w]) (δ ++ [some d,some e]):=by
 have:=(S.snoc r).snoc r'
 rw [aL,aL] at this
 exact this
variable {N' : List Str} {sc : Scope} {iter elt : Expr} {ifs : List Expr} {n : Nat} {x y : Str} {px py tp pos : Pos} {x1 : Nat} {fi : DS->Option (List D)} {fc : DS->Option Bool} {fe : DE}
def gTwo (K : aa) (n : Nat) : TG:=gTup K 2 (y6L (z2Z n) (y6L (z2Z (n + 1)) gNil))
theorem y4E {σ : St} {H : Hp} {Q : VK} (hσ : σ.length=n) (hq : tF X.K (z4j fi fc fe) σ H Q) : y3H (tI X.K fi) (gTwo X.K n) (tT X.K fc) (tD X.K fe) 2 σ H Q:=by
 obtain ⟨B,δ,ds,hB,Sδ,q,k⟩:=hq
 unfold z4j at q
 cases e1 : fi δ with
 | none=>rw [e1] at q; cases q
 | some xs=>
 rw [e1] at q
 have q1 : (if xs.length≤sizeLine then z1Z (two (z3T fc fe δ)) xs else none)=some ds:=q
 split at q1
 case isFalse=>cases q1
 case isTrue hsz=>
 refine ⟨B,δ,xs,hB,Sδ,e1,fun J H1 s1 itw=>fun Da hD=>?_⟩
 have hD0 : H Da=none:=s1.free hD
 have it:=itw (fun a=>a=Da) fun a ha=>by rw [ha]; exact hD
 have Sw : RepS X.K H1 (fun a=>B a∨a=Da) σ δ:=(Sδ.mono s1).wide fun a ha=>by rw [ha]; exact hD
 refine ⟨fun i m σ' H'=>m=xs.length - i∧i≤xs.length∧(∃ w w',σ'=σ ++ [w,w'])∧Same H1 H'∧∃ ys dn rs,H' Da=some (.lst ys)∧Reps X.K H' (fun a=>B a∨a=Da) dn ys∧ds=dn ++ rs∧dn.length≤i ∧
  z1Z (two (z3T fc fe δ)) (xs.drop i)=some rs,
  ⟨xs.length,by simp,bu _,⟨none,none,rfl⟩,z0t hD,[],[],ds,z0s,.nil,rfl,ar _,q1⟩,?_⟩
 rintro i m σ' H' ⟨rfl,hi',⟨w,w',rfl⟩,sm,ys,dn,rs,hys,rys,hds,hln,hrs⟩
 have kp : Keep X.K (fun a=>B a∨a=Da) H1 H':=.same sm
 by_cases hlt : i < xs.length
 ·refine .inr ⟨it.go i H' kp hlt,fun σ'' H''=>(i + 1≤xs.length∧(∃ w w',σ''=σ ++ [w,w'])∧Same H1 H''∧∃ ys dn rs,H'' Da=some (.lst ys)∧Reps X.K H'' (fun a=>B a∨a=Da) dn ys∧ds=dn ++ rs∧dn.length≤i + 1 ∧
   z1Z (two (z3T fc fe δ)) (xs.drop (i + 1))=some rs),fun σ'' H'' h=>⟨xs.length - (i + 1),by omega,rfl,h⟩,fun xv H2 hy=>?_⟩
  obtain ⟨s2,d,hd,rd⟩:=it.yld i H' xv H2 kp hy
  have hdi:=hd hlt
  have hx : xs.drop i=d :: xs.drop (i + 1):=by
   obtain ⟨hl,e⟩:=aU.mp hdi
   rw [bn hl,e]
  rw [hx] at hrs
  obtain ⟨o,rs',e2,e3,e4⟩:=z5V hrs
  obtain ⟨da,db,ed,e2b⟩:=y9A e2
  subst ed
  unfold Rep at rd
  obtain ⟨p,vs,rfl,hsq,rvs⟩:=rd
  unfold Reps at rvs
  obtain ⟨va,r1,rfl,ra,rvs⟩:=rvs
  unfold Reps at rvs
  obtain ⟨vb,r2,rfl,rb,rvs⟩:=rvs
  unfold Reps at rvs
  subst rvs
  refine ⟨p,[va,vb],rfl,hsq,rfl,va,[vb],rfl,vb,[],rfl,rfl,?_⟩
  rw [← hσ,y0o]
  have hB1 : InB (fun a=>B a∨a=Da) H2:=fun a ha=>ha.elim (fun z=>(((hB.mono s1).mono sm).mono s2) a z) fun z=>⟨_,s2 _ _ (z ▸ hys)⟩
  have S2 : RepS X.K H2 (fun a=>B a∨a=Da) (σ ++ [some va,some vb]) (δ ++ [some da,some db]):=((Sw.mono sm).mono s2).snoc2 ra rb
  have hl2 : ys.length < sizeLine:=by
   have:=rys.length
   omega
  unfold z3T at e2b
  cases ec : fc (δ ++ [some da,some db]) with
  | none=>rw [ec] at e2b; cases e2b
  | some kk=>
   rw [ec] at e2b
   have e2' : (if kk=true then (fe (δ ++ [some da,some db])).map some else some none)=some o:=e2b
   refine ⟨_,δ ++ [some da,some db],kk,hB1,S2,ec,fun H3 s3=>?_⟩
   cases kk with
   | false=>
    rw [if_neg ax] at e2'
    rw [if_neg ax]
    cases e2'
    exact ⟨hlt,⟨_,_,rfl⟩,(sm.trans s2).trans s3,ys,dn,rs',s3 _ _ (s2 _ _ hys),(rys.mono s2).mono s3,by rw [hds,e4]; rfl,dg hln,e3⟩
   | true=>
    rw [if_pos rfl] at e2'
    rw [if_pos rfl]
    cases ey : fe (δ ++ [some da,some db]) with
    | none=>rw [ey] at e2'; cases e2'
    | some y=>
     rw [ey] at e2'
     cases e2'
     refine ⟨_,δ ++ [some da,some db],y,hB1.mono s3,S2.mono s3,ey,fun yv H5 s5 r5=>⟨ys,s5 _ _ (s3 _ _ (s2 _ _ hys)),hl2,?_⟩⟩
     have hu : H5 Da=some (.lst ys):=s5 _ _ (s3 _ _ (s2 _ _ hys))
     refine ⟨hlt,⟨_,_,rfl⟩,fun b u hb=>?_,ys ++ [yv],dn ++ [y],rs',z0s,?_,by rw [hds,e4,aL]; rfl,by rw [aH]; simp; omega,e3⟩
     ·rw [z0A (z1s hb hD)]
      exact s5 _ _ (s3 _ _ (s2 _ _ (sm _ _ hb)))
     ·exact Reps.keep (.upd (.inr rfl) (by rw [hu]; exact trivial)) _ (((rys.mono s2).mono s3 |>.mono s5).snoc r5)
 ·have e : i=xs.length:=by omega
  subst e
  refine .inl ⟨it.stop _ H' kp (ar _),?_⟩
  rw [cb] at hrs
  cases hrs
  rw [aG] at hds
  subst hds
  exact k Da ys H' (s1.trans sm) hD0 hys (rys.anti fun a z=>.inl z)
theorem z6w (hc : X.calm=true) (S : CompScope X.N X.env.scope.names N' 2 sc) (hn : n=X.N.length) (hi : PID X (.Tuple [.Name x px,.Name y py] x1 tp) iter fi)
  (hg : ∀ s H fp pins E,PG (z0w X N' sc s H fp pins E) (.Tuple [.Name x px,.Name y py] x1 tp) (gTwo X.K n)) (ht : ∀ s H fp pins E,y3Q (z0w X N' sc s H fp pins E) ifs (tT X.K fc)) (he : ∀ s H fp pins E,PE (z0w X N' sc s H fp pins E) elt (tD X.K fe))
  (hs : ∀ x,foldedSetIterable iter X.env x=pure x:=by intro _; rfl) : PF X (.ListComp elt [⟨.Tuple [.Name x px,.Name y py] x1 tp,iter,ifs,0⟩] sc pos) (z4j fi fc fe):=by
 intro pins s σ H Q I hq
 exact y1d hc S hi ⟨hg,ht,he⟩ hs pins s σ H Q I (y4E (by rw [hn,I.len]) hq)
theorem y2K {X : Cx} {n : Nat} {x y : Str} {px py tp : Pos} {x1} (hc : X.calm=true) (h1 : PG X (.Name x px) (z2Z n)) (h2 : PG X (.Name y py) (z2Z (n + 1)))
  (hs : (assignEach [.Name x px,.Name y py] X.env).map (·.2)=assign (.Name x px) X.env :: (assignEach [.Name y py] X.env).map (·.2):=by rfl) (hs2 : (assignEach [.Name y py] X.env).map (·.2)=assign (.Name y py) X.env :: (assignEach [] X.env).map (·.2):=by rfl)
  (hn : (assignEach [.Name x px,.Name y py] X.env).length=2:=by rfl) (hst : (assignEach [.Name x px,.Name y py] X.env).findIdx? (·.1)=none:=by rfl) : PG X (.Tuple [.Name x px,.Name y py] x1 tp) (gTwo X.K n):=
 y9V hc (z6x h1 (z6x h2 y6E hs2) hs) hn hst
end
end L2
namespace L2
open PySem PySem.Spec PyProof.Rows
def y1K : D->Option Key
 | .int n=>some (.inl n)
 | .str x=>some (.inr x)
 | _=>none
theorem y0M {K : aa} {H : Hp} {B : Addr->Prop} {d : D} {k : Key} {v : V} (e : y1K d=some k) (r : Rep K H B d v) : v=kV k:=by
 unfold y1K at e
 split at e
 ·cases e; unfold Rep at r; exact r
 ·cases e; unfold Rep at r; exact r
 ·cases e
def setK (ks : List Key) (ds : List D) (k : Key) (d : D) : List D:=match ks,ds with
 | k' :: ks,e :: ds=>(if k'=k then d else e) :: setK ks ds k d
 | _,_=>[]
def y0G (ks : List Key) (k : Key) : Bool:=ks.any fun k'=>decide (k'=k)
def z9z (ks : List Key) (k : Key) : List Key:=if y0G ks k=true then ks else ks ++ [k]
def y0p (ks : List Key) (ds : List D) (k : Key) (d : D) : List D:=if y0G ks k=true then setK ks ds k d else ds ++ [d]
theorem y0L {k : Key} {kvs : List (Key × V)} {ks : List Key} (e : kvs.map (·.1)=ks) : (kvs.any fun kv=>decide (kv.1=k))=y0G ks k:=by
 subst e
 unfold y0G
 rw [c8]
 rfl
theorem y3k {K : aa} {H : Hp} {k : Key} {d : D} {v : V} (td : Tree K H d v []) : ∀ {kvs : List (Key × V)} {ds : List D},Trees K H ds (kvs.map (·.2)) []->Trees K H (setK (kvs.map (·.1)) ds k d) ((kvs.map fun kv=>if kv.1=k then (kv.1,v) else kv).map (·.2)) []
 | [],ds,t=>by
  cases ds with
  | nil=>exact .nil
  | cons e ds=>unfold Trees at t; obtain ⟨_,_,_,_,z,_⟩:=t; cases z
 | p :: r,[],t=>by obtain ⟨z,_⟩:=t; cases z
 | p :: r,e :: ds,t=>by
  unfold Trees at t
  obtain ⟨x,xs,B,C,e1,t1,t2,e2⟩:=t
  cases e1
  obtain ⟨rfl,rfl⟩:=List.append_eq_nil_iff.mp e2.symm
  have ih:=y3k (k:=k) td (kvs:=r) t2
  rw [aM,aM,aM]
  unfold setK Trees
  refine ⟨_,_,[],[],rfl,?_,ih,rfl⟩
  by_cases h : p.1=k
  ·rw [if_pos h,if_pos h]; exact td
  ·rw [if_neg h,if_neg h]; exact t1
theorem y8H {k : Key} {v : V} {kvs : List (Key × V)} : (z7x kvs k v).map (·.1)=z9z (kvs.map (·.1)) k:=by
 unfold z7x z9z
 rw [y0L (k:=k) (kvs:=kvs) rfl]
 by_cases h : y0G (kvs.map (·.1)) k=true
 ·rw [if_pos h,if_pos h,bq]
  apply cR
  intro p _
  show (if p.1=k then (p.1,v) else p).1=p.1
  split <;> rfl
 ·rw [if_neg h,if_neg h,aP]
  rfl
theorem y8i {K : aa} {H : Hp} {k : Key} {d : D} {v : V} {kvs : List (Key × V)} {ds : List D} (td : Tree K H d v []) (t : Trees K H ds (kvs.map (·.2)) []) : Trees K H (y0p (kvs.map (·.1)) ds k d) ((z7x kvs k v).map (·.2)) []:=by
 unfold z7x y0p
 rw [y0L (k:=k) (kvs:=kvs) rfl]
 by_cases h : y0G (kvs.map (·.1)) k=true
 ·rw [if_pos h,if_pos h]
  exact y3k td t
 ·rw [if_neg h,if_neg h,aP]
  exact t.snoc td
theorem y2e {k : Key} {kvs : List (Key × V)} : (y2o kvs k).isSome=y0G (kvs.map (·.1)) k:=by rw [← z8D]; exact y0L rfl
def inK : D->D->Option Bool:=fun x y=>match y with
 | .dct ks _=>(y1K x).map fun k=>y0G ks k
 | _=>none
def y8C (f g : DE) : DS->Option Bool:=fun δ=>(f δ).bind fun x=>(g δ).bind fun y=>inK x y
def y8c (f g : DE) : DS->Option Bool:=fun δ=>(y8C f g δ).map (!·)
section
variable {X : Cx} {a b o i value : Expr} {f g : DE} {pos pos' : Pos}
theorem y1R {δ : DS} {c : Bool} (h : y8C f g δ=some c) : ∃ x k ks ds,f δ=some x∧y1K x=some k∧g δ=some (.dct ks ds)∧c=y0G ks k:=by
 unfold y8C at h
 cases e1 : f δ with
 | none=>rw [e1] at h; cases h
 | some x=>
  rw [e1] at h
  cases e2 : g δ with
  | none=>rw [e2] at h; cases h
  | some y=>
   rw [e2] at h
   have h : inK x y=some c:=h
   unfold inK at h
   split at h
   ·cases e3 : y1K x with
    | none=>rw [e3] at h; cases h
    | some k=>rw [e3] at h; cases h; exact ⟨x,k,_,_,rfl,e3,rfl,rfl⟩
   ·cases h
theorem pt_din (hu : X.A.units + 64 < cLine) (ha : PD X a f) (hb : PD X b g) (hm : behindInMarks .In b=false:=by rfl) : PTD X (.Compare a [.In] [b] pos) (y8C f g):=
 (y6P (pc_din (by omega) ha hb) hm).imp fun σ H Q ⟨B,δ,c,hB,S,q,k⟩=>by
  obtain ⟨x,ky,ks,ds,e1,e2,e3,rfl⟩:=y1R q
  refine ⟨B,δ,x,hB,S,e1,fun v H1 s1 r1=>⟨B,δ,_,hB.mono s1,S.mono s1,e3,fun w H2 s2 r2=>?_⟩⟩
  unfold Rep at r2
  obtain ⟨p,kvs,rfl,n,hp,ek,rs⟩:=r2
  have ev:=y0M e2 r1
  subst ev
  refine ⟨p,y2o kvs ky,rfl,DGet.k hp,_,rfl,?_⟩
  rw [y2e,ek]
  exact k H2 (s1.trans s2)
theorem pt_dnin (hu : X.A.units + 64 < cLine) (ha : PD X a f) (hb : PD X b g) (hm : behindInMarks .NotIn b=false:=by rfl) : PTD X (.Compare a [.NotIn] [b] pos) (y8c f g):=
 (y6P (y7h (by omega) ha hb) hm).imp fun σ H Q ⟨B,δ,c,hB,S,q,k⟩=>by
  unfold y8c at q
  cases e0 : y8C f g δ with
  | none=>rw [e0] at q; cases q
  | some c0=>
  rw [e0] at q
  cases q
  obtain ⟨x,ky,ks,ds,e1,e2,e3,rfl⟩:=y1R e0
  refine ⟨B,δ,x,hB,S,e1,fun v H1 s1 r1=>⟨B,δ,_,hB.mono s1,S.mono s1,e3,fun w H2 s2 r2=>?_⟩⟩
  unfold Rep at r2
  obtain ⟨p,kvs,rfl,n,hp,ek,rs⟩:=r2
  have ev:=y0M e2 r1
  subst ev
  refine ⟨p,y2o kvs ky,rfl,DGet.k hp,_,rfl,?_⟩
  rw [y2e,ek]
  exact k H2 (s1.trans s2)
theorem pn_dnew : PN X (.Dict [] [] pos) (dC (.dct [] [])):=pe_dnewK.imp fun σ H Q ⟨δ,d,S,q,k⟩=>by
 cases q
 intro p hp
 refine k _ _ [p] (z0t hp) ?_ (aE.mpr ⟨fun z=>(nomatch z),bh⟩) fun a ha=>?_
 ·unfold Tree
  exact ⟨p,[],[],rfl,z0s,rfl,.nil,rfl⟩
 ·rw [ai.mp ha]; exact hp
variable {H0 : Hp} {B0 : Addr->Prop} {fr : Bool} {RX : XR} {x : Str} {px : Pos} {ke e : Expr}
def dput (i : Nat) (fk fv : DE) : SS->Option Out:=fun δ=>(fv (z0v δ)).bind fun d=>if d.imm=true then (fk (z0v δ)).bind fun dk=>(match y1K dk,δ[i]? with
 | some k,some (some (.ow (.dct ks ds)))=>if z2z ds=true∧ks.length < sizeLine then some (.nx ((z0G i δ).set i (some (.ow (.dct (z9z ks k) (y0p ks ds k d)))))) else none
 | _,_=>none) else none
theorem y6Y {K : aa} {H : Hp} {ds : List D} {xs : List V} {A : List Addr} (t : Trees K H ds xs A) (h : z2z ds=true) : Trees K H ds xs []:=Reps.immTree (B:=fun _=>False) ds h (t.rep ds fun _ _ z=>z)
theorem y9T {i : Nat} {fk fv : DE} (hu : X.A.units + 64 < cLine) (hx : PE X (.Name x px) (y3i i)) (hk : PD X ke fk) (hv : PD X e fv)
  (hs : swapsWith e (some (.Subscript (.Name x px) ke pos')) pos.line X.env=pure false:=by rfl) :
  PS X (.Assign [.Subscript (.Name x px) ke pos'] e pos) (tS X.K H0 B0 fr RX (dput i fk fv)):=
 PS.imp (ps_dput (by omega) hx hk hv hs) fun D σ H ⟨δ,R,o,rs,q,kk⟩=>by
  unfold dput at q
  cases e1 : fv (z0v δ) with
  | none=>rw [e1] at q; cases q
  | some d=>
  rw [e1,am] at q
  split at q
  case isFalse=>cases q
  case isTrue hi=>
  cases e2 : fk (z0v δ) with
  | none=>rw [e2] at q; cases q
  | some dk=>
  rw [e2,am] at q
  split at q
  case h_2=>cases q
  case h_1 k ks ds e3 ei=>
  split at q
  case isFalse=>cases q
  case isTrue hc=>
  cases q
  obtain ⟨v0,ev,t0,nd⟩:=rs.ow i _ ei
  unfold Tree at t0
  obtain ⟨a,kvs,A,rfl,ha,ek,ts,eR⟩:=t0
  have ts:=y6Y ts hc.1
  refine ⟨noB,z0v δ,d,.no,rs.all,e1,fun v H1 s1 r1=>⟨.ref a,ev,noB,z0v δ,dk,.no,rs.all.mono s1,e2,fun kv H2 s2 r2=>?_⟩⟩
  have ekv:=y0M e3 r2
  subst ekv
  subst ek
  have ha2 : H2 a=some (.dK kvs):=s2 _ _ (s1 _ _ ha)
  refine ⟨a,_,rfl,DPut.k ha2 (by rw [← aq (f:=(·.1))]; exact hc.2),?_⟩
  have haR : a∈R i:=by rw [eR]; exact ac
  have mu : Mut (H2 a):=by rw [ha2]; exact trivial
  have td : Tree X.K H2 d v []:=(r1.immTree d hi).mono s2
  have tp:=y8i (k:=k) td (ts.mono (s1.trans s2))
  have P:=rs.rewrite (d':=.dct (z9z (kvs.map (·.1)) k) (y0p (kvs.map (·.1)) ds k d)) (a:=a) (o:=.dK (z7x kvs k v)) (A':=[a]) (s1.trans s2) ei ev haR (by
   unfold Tree
   exact ⟨a,z7x kvs k v,[],rfl,z0s,y8H,Trees.keep (Keep.upd (K:=X.K) (B:=fun x=>x=a) rfl mu).i _ tp fun b hb=>(nomatch hb),rfl⟩) (aE.mpr ⟨fun z=>(nomatch z),bh⟩) fun b hb=>by
    rw [ai.mp hb]; exact .inl haR
  exact kk σ _ _ P.1 P.2
end
end L2
namespace HT
open PySem PySem.Spec PyProof.Rows
section
variable {prog : Program} {w : World} {A : Around} {E : Value->Shared->Prop} {s : Shared}
end
end HT
namespace L2
open PySem PySem.Spec PyProof.Rows
section
variable {X : Cx} {e st : Expr} {te : TE} {tk : TO} {pos p2 : Pos}
variable {f g : DE}
variable {a b : Expr}
def catLs : D->D->Option (List D)
 | .lst ds,.lst es=>if ds.length + es.length≤sizeLine then some (ds ++ es) else none
 | _,_=>none
def y4l (f g : DE) : DS->Option (List D):=fun δ=>(f δ).bind fun x=>(g δ).bind fun y=>catLs x y
theorem z6h (ha : PD X a f) (hb : PD X b g) : PF X (.BinOp a .Add b pos) (y4l f g):=(pe_op op_cat ha hb).imp fun σ H Q ⟨B,δ,ds,hB,S,q,k⟩=>by
 unfold y4l at q
 cases e1 : f δ with
 | none=>rw [e1] at q; cases q
 | some x=>
 rw [e1,am] at q
 cases e2 : g δ with
 | none=>rw [e2] at q; cases q
 | some y=>
 rw [e2,am] at q
 unfold catLs at q
 split at q
 case h_2=>cases q
 case h_1 xs ys=>
 split at q
 case isFalse=>cases q
 case isTrue hl=>
 cases q
 refine ⟨B,δ,_,hB,S,e1,fun v H1 s1 r1=>⟨B,δ,_,hB.mono s1,S.mono s1,e2,fun v2 H2 s2 r2=>?_⟩⟩
 unfold Rep at r1 r2
 obtain ⟨p1,vs,rfl,n1,h1,rs1⟩:=r1
 obtain ⟨p2,ws,rfl,n2,h2,rs2⟩:=r2
 refine ⟨p1,p2,vs,ws,rfl,rfl,s2 _ _ h1,h2,by rw [← rs1.length,← rs2.length]; exact hl,fun p hp=>?_⟩
 exact k p _ _ ((s1.trans s2).trans (z0t hp)) ((s1.trans s2).free hp) z0s (((rs1.mono s2).append rs2).mono (z0t hp))
variable {p : Pos}
end
end L2
namespace L2
open PySem PySem.Spec PyProof.Rows
section
variable {X : Cx} {o e : Expr} {apos cpos : Pos}
def rLIx (K : aa) : V->List V->Hp->VK->Prop:=fun x vs H Q=>∃ (a : Addr) (ns : List Int) (i : Int) (j : Nat),x = .ref a∧vs=[.int i]∧SqL K H a (ns.map V.int)∧ns.findIdx? (fun n=>n == i)=some j∧Q (.int (j : Int)) H
theorem y7r : MtR X "list.index" (rLIx X.K):=by
 intro pins s σ H x vs v us Q I rx rv h
 obtain ⟨a,ns,i,j,rfl,rfl,hq,hj,q⟩:=h
 cases rx
 obtain ⟨u,rfl,ru⟩:=rv.one
 obtain ⟨ut,rfl⟩:=ru
 obtain ⟨its,r,⟨⟨cls,dct,dat,sl⟩,n,e,c,d,hd⟩,hz⟩:=I.list hq
 have c : cls = .type "list" := c
 have hd : dat = .seq its.toArray n:=hd
 subst c; subst hd
 obtain ⟨hjl,hji,hjm⟩:=List.findIdx?_eq_some_iff_getElem.mp hj
 have hl : ns.length=its.length:=by have:=r.length; simpa using this
 have hj2 : j < its.length:=by omega
 rw [sizeLine_eq,aq] at hz
 refine call_meets F.slot_list_index ⟨_,e,rfl⟩ F.entry_list_index (F.args_list_index_2 _ _) (SeqAt.list_indexAt a its.toArray n dct sl (.int i ut) (isI i) j (by simpa using hj2) (by omega) ?_ ?_) ⟨e,?_,?_⟩
 ·obtain ⟨t,h2,e2⟩:=y9l r j hj2
  simp [e2,isI]
  simpa using hji
 ·intro m hm hmj
  obtain ⟨t,h2,e2⟩:=y9l r m (by omega)
  have:=hjm m hmj
  simp [e2,isI]
  simpa using this
 ·intro y hy
  obtain ⟨k,hk,rfl⟩:=List.getElem_of_mem (show y∈its by simpa using hy)
  obtain ⟨t,h2,e2⟩:=y9l r k hk
  rw [e2]
  exact SeqAt.EqAt.int_int _ _ _ _
 ·exact ⟨.int (j : Int),H,I.tok _,⟨_,rfl⟩,q⟩
def lixF : D->D->Option D
 | .lst ds,.int i=>(z4p ds).bind fun ns=>(ns.findIdx? (fun n=>n == i)).map fun j=>.int (j : Int)
 | _,_=>none
theorem y6X {f g : DE} (ho : PD X o f) (he : PD X e g) (hbase : attributeBase o "index" X.env (eval o X.env)=eval o X.env:=by rfl)
  (hfew : ((backTo cpos (starEach [e] X.env)).all (fun x=>!x.1) && (backToKw cpos (keywordEach [] X.env)).all (fun x=>x.1.isSome) && decide ([e].length + ([] : List Keyword).length + (if ([] : List Keyword).isEmpty then 0 else 1) < 30))=true:=by rfl)
  (hline : (apos.endLine == cpos.line)=true:=by rfl) (hs : starEach [e] X.env=(false,eval e X.env) :: starEach [] X.env:=by rfl) :
  PD X (.Call (.Attribute o "index" apos) [e] [] cpos) (d2 lixF f g):=
 (y7H PySem.F.plainAttrs_list PySem.F.slot_list_index PySem.F.type_list_index y7r ho (z1l he pa_nil hs) hbase hfew hline hs rfl).imp fun σ H Q ⟨B,δ,d,hB,S,q,k⟩=>by
  obtain ⟨x,y,e1,e2,e3⟩:=z8G q
  unfold lixF at e3
  split at e3
  case h_2=>cases e3
  case h_1 ds i=>
  cases e4 : z4p ds with
  | none=>rw [e4] at e3; cases e3
  | some ns=>
  rw [e4,am] at e3
  cases e5 : ns.findIdx? (fun n=>n == i) with
  | none=>rw [e5] at e3; cases e3
  | some j=>
  rw [e5] at e3
  cases e3
  have eds:=y0a e4
  subst eds
  refine ⟨B,δ,_,hB,S,e1,fun v H1 s1 r1=>?_⟩
  unfold Rep at r1
  obtain ⟨a,xs,rfl,nb,hq,rs⟩:=r1
  have ex:=y2h rs
  subst ex
  refine ⟨.inl ⟨rfl,_,SqL.of hq⟩,B,δ,_,hB.mono s1,S.mono s1,e2,fun v2 H2 s2 r2=>?_⟩
  unfold Rep at r2
  subst r2
  exact ⟨a,ns,i,j,rfl,rfl,SqL.of (s2 _ _ hq),e5,k _ H2 (s1.trans s2) (by unfold Rep; rfl)⟩
end
end L2
namespace L2
open PySem PySem.Spec PyProof.Rows
section
variable {X : Cx} {H0 : Hp} {B0 : Addr->Prop} {fr : Bool} {RX : XR} {e : Expr} {pos : Pos} {f : DE}
end
end L2
namespace L2
open PySem PySem.Spec PyProof.Rows
def cntR (lo hi c : Int) : Nat:=if lo < hi then ((hi - lo - 1) / c + 1).toNat else 0
def Itr3 (lo c : Int) (n : Nat) : It:=⟨fun i _=>i < n,fun i H x H'=>H'=H∧x = .int (lo + (i : Nat) * c),fun i _=>n≤i⟩
theorem y1G {P : Program} {w : World} {K : aa} {tg : Expr} (it : Addr) (lo c : Int) (n : Nat) : Turn P w K tg (Itr3 lo c n) [it] it (fun i h=>IsRangeIter h it (lo + (i : Nat) * c) ((n : Int) - (i : Nat)) c) where
 mem:=by simp
 obj:=fun i h st b hb=>by
  have e : b=it:=by simpa using hb
  subst e
  exact ⟨_,st,fun v z=>by
   have z' : Data.fields _=Data.cell v:=z
   cases z'⟩
 keep:=fun i h h' st k=>k it (by simp) _ st
 item:=by
  intro X hP hw hK hc i pins s σ H E I hf st hg
  subst hP hw hK
  obtain ⟨f0,f1,f2,f3,f4,f5⟩:=hf it (by simp)
  have W:=Walks.range (prog:=X.prog) (w:=X.w) (I.ok.hd hc) it lo c n
  refine W.item i s _ _ hg st fun v h' tk hv st' kk=>?_
  obtain ⟨t,rfl⟩:=hv
  have I1 : Inv X pins σ H { s with heap:=h',toks:=tk }:=I.turned (fun b o hb e=>kk b o (by simpa using hb) e) f0 f1 f3 f4 f5
  exact ⟨_,rfl,y6J (s:={ s with heap:=h',toks:=tk }) (n := "range_iterator") st' rfl rfl (by decide) ⟨.int (lo + (i : Nat) * c),H,I1,⟨t,rfl⟩,⟨rfl,rfl⟩,st',fun b hb=>(hf b hb).1⟩⟩
 done:=by
  intro X hP hw hK hc i pins s σ H E I hf st hg
  subst hP hw hK
  obtain ⟨f0,f1,f2,f3,f4,f5⟩:=hf it (by simp)
  exact wpAny_pyNext_range_end (I.ok.hd hc) st (by have : n≤i:=hg; omega) fun h' eb=>⟨rfl,I.turned (t':=s.toks) (fun b o hb e=>eb b o hb e) f0 f1 f3 f4 f5⟩
 self:=fun _ _ _ _ _ st h=>wpAny_pyIter_rangeiter st h
section
variable {X : Cx} {tg : Expr}
theorem Vals.three : ∀ {x y z : V} {us : List Value},Vals [x,y,z] us->∃ u v w,us=[u,v,w]∧RelV x u∧RelV y v∧RelV z w
 | _,_,_,_,.cons r (.cons q (.cons p .nil))=>⟨_,_,_,rfl,r,q,p⟩
def y5h (lo c : Int) (n : Nat) : List D:=(ah n).map fun i=>.int (lo + (i : Nat) * c)
theorem y9y {lo c : Int} {n i : Nat} (h : i < n) : (y5h lo c n)[i]? = some (.int (lo + (i : Nat) * c)):=by
 unfold y5h
 rw [aN,cS h]
 rfl
theorem z8i {lo c : Int} {n : Nat} : (y5h lo c n).length=n:=by simp [y5h]
theorem y9j {K : aa} {H : Hp} {B : Addr->Prop} {lo c : Int} {n : Nat} : ItD K (Itr3 lo c n) H B (y5h lo c n):=by
 refine ⟨fun i H' _ hi=>?_,fun i H' _ hi=>?_,fun i H' x H2 _ y=>?_⟩
 ·rw [z8i] at hi; exact hi
 ·rw [z8i] at hi; exact hi
 ·obtain ⟨e,y⟩:=y
  subst e y
  exact ⟨.refl _,.int (lo + (i : Nat) * c),fun h=>y9y (by rwa [z8i] at h),rfl⟩
def rng3 : Option D->Option D->Option D->Option (List D)
 | some (.int i),some (.int j),some (.int c)=>if -(2 ^ 61)≤i∧i < 2 ^ 61∧-(2 ^ 61)≤j∧j < 2 ^ 61∧0 < c∧c < 2 ^ 30 then some (y5h i c (cntR i j c)) else none
 | _,_,_=>none
end
def z4N (c : DS->Option Bool) (b : SS->Option Out) : Nat->SS->Option Out
 | 0,_=>none
 | n + 1,δ=>(c (z0v δ)).bind fun k=>if k=true then (b δ).bind fun o=>(match o with
  | .nx δ'=>z4N c b n δ'
  | .ct δ'=>z4N c b n δ'
  | .bk δ'=>some (.nx δ')
  | .rt d=>some (.rt d)
  | .rb d δ'=>some (.rb d δ')
  | .ex c δ'=>some (.ex c δ')) else some (.nx δ)
section
variable {X : Cx} {H0 : Hp} {B0 : Addr->Prop} {fr : Bool} {RX : XR} {pos : Pos}
theorem y5O {c : Expr} {body : List Stmt} {fc : DS->Option Bool} {g : SS->Option Out} (n : Nat) (hp : PassesOwn (model X.prog X.w) X.A X.env X.xe) (hc : PTD X c fc) (hb : PSs X body (tS X.K H0 B0 fr RX g)) : PS X (.While c body [] pos) (tS X.K H0 B0 fr RX (z4N fc g n)):=
 PS.imp (y7Z hp hc hb) fun D σ H ⟨δ,R,o,rs,q,k⟩=>by
  refine ⟨fun m σ' H'=>∃ δ' R',RS X.K H0 B0 H' σ' δ' R'∧Stp R H R' H'∧z4N fc g m δ'=some o,⟨n,δ,R,rs,.refl R H,q⟩,?_⟩
  rintro m σ' H' ⟨δ',R',rs',s',q'⟩
  cases m with
  | zero=>cases q'
  | succ m=>
   unfold z4N at q'
   cases ec : fc (z0v δ') with
   | none=>rw [ec] at q'; cases q'
   | some kk=>
    rw [ec,am] at q'
    refine ⟨noB,z0v δ',kk,.no,rs'.all,ec,fun H1 s1=>?_⟩
    have rs1:=rs'.mono s1
    have st1 : Stp R H R' H1:=s'.trans (.same s1)
    cases kk with
    | false=>
     rw [if_neg ax] at q'
     cases q'
     exact k σ' H1 R' rs1 st1
    | true=>
     rw [if_pos rfl] at q'
     cases eb : g δ' with
     | none=>rw [eb] at q'; cases q'
     | some ob=>
      rw [eb,am] at q'
      refine ⟨fun σ2 H2=>∃ δ2 R2,RS X.K H0 B0 H2 σ2 δ2 R2∧Stp R H R2 H2∧z4N fc g m δ2=some o,fun σ2 H2 z=>⟨m,dB m,z⟩,δ',R',ob,rs1,eb,?_⟩
      cases ob with
      | nx δ2=>exact fun σ3 H3 R3 rs3 s3=>⟨δ2,R3,rs3,st1.trans s3,q'⟩
      | ct δ2=>exact fun σ3 H3 R3 rs3 s3=>⟨δ2,R3,rs3,st1.trans s3,q'⟩
      | bk δ2=>
       cases q'
       exact fun σ3 H3 R3 rs3 s3=>k σ3 H3 R3 rs3 (st1.trans s3)
      | rt d=>
       cases q'
       exact k.back st1
      | rb d δ2=>
       cases q'
       exact k.back st1
      | ex c δ2=>
       cases q'
       exact k.back st1
def isN : D->Bool
 | .non=>true
 | _=>false
theorem rep_isN {K : aa} {H : Hp} {B : Addr->Prop} {d : D} {v : V} (r : Rep K H B d v) : decide (v=V.non)=isN d:=by
 cases d with
 | non=>unfold Rep at r; subst r; rfl
 | bl b=>unfold Rep at r; subst r; rfl
 | int i=>unfold Rep at r; subst r; rfl
 | str x=>unfold Rep at r; subst r; rfl
 | lst ds=>unfold Rep at r; obtain ⟨a,xs,rfl,_⟩:=r; rfl
 | tup ds=>unfold Rep at r; obtain ⟨a,xs,rfl,_⟩:=r; rfl
 | scr ns=>unfold Rep at r; obtain ⟨a,rfl,_⟩:=r; rfl
 | dct ks ds=>unfold Rep at r; obtain ⟨a,kvs,rfl,_⟩:=r; rfl
 | exc x=>unfold Rep at r; obtain ⟨a,C,rfl,_⟩:=r; rfl
 | obj x a ks ds=>unfold Rep at r; obtain ⟨C,dx,fs,_,_,⟨rfl,_⟩,_⟩:=r; rfl
 | cel a ds=>unfold Rep at r; obtain ⟨xs,_,_,rfl,_⟩:=r; rfl
def y1A (f : DE) : DS->Option Bool:=fun δ=>(f δ).map fun d=>!isN d
variable {a : Expr} {f : DE}
theorem y3C {j pos'} (ha : PD X a f) (hm : behindInMarks .IsNot (.Constant .none j pos')=false:=by rfl) : PTD X (.Compare a [.IsNot] [.Constant .none j pos'] pos) (y1A f):=(y6P (pc_notN ha) hm).imp fun σ H Q ⟨B,δ,c,hB,S,q,k⟩=>by
 unfold y1A at q
 cases e : f δ with
 | none=>rw [e] at q; cases q
 | some d=>
  rw [e] at q
  cases q
  refine ⟨B,δ,d,hB,S,e,fun v H1 s1 r1=>⟨_,rfl,?_⟩⟩
  rw [rep_isN r1]
  exact k H1 s1
end
end L2
namespace L2
open PySem PySem.Spec PyProof.Rows
section
variable {X : Cx} {a b : Expr} {f g : DE} {pos : Pos}
variable {H0 : Hp} {B0 : Addr->Prop} {fr : Bool} {RX : XR} {x : Str} {px ap cp : Pos} {e : Expr}
def y4P (i : Nat) (f : DE) : SS->Option Out:=fun δ=>(f (z0v δ)).bind fun d=>(match d,δ[i]? with
 | .lst es,some (some (.ow (.lst ds)))=>if ds.length + es.length≤sizeLine then some (.nx ((z0G i δ).set i (some (.ow (.lst (ds ++ es)))))) else none
 | _,_=>none)
theorem y6C {i : Nat} (hx : PE X (.Name x px) (y3i i)) (he : PN X e f) (hbase : attributeBase (.Name x px) "extend" X.env (eval (.Name x px) X.env)=eval (.Name x px) X.env:=by rfl)
  (hfew : ((backTo cp (starEach [e] X.env)).all (fun x=>!x.1) && (backToKw cp (keywordEach [] X.env)).all (fun x=>x.1.isSome) && decide ([e].length + ([] : List Keyword).length + (if ([] : List Keyword).isEmpty then 0 else 1) < 30))=true:=by rfl)
  (hline : (ap.endLine == cp.line)=true:=by rfl) (hs : starEach [e] X.env=(false,eval e X.env) :: starEach [] X.env:=by rfl) (hsw : swapsWith (.Call (.Attribute (.Name x px) "extend" ap) [e] [] cp) none pos.line X.env=pure false:=by rfl) :
  PS X (.Expr (.Call (.Attribute (.Name x px) "extend" ap) [e] [] cp) pos) (tS X.K H0 B0 fr RX (y4P i f)):=
 PS.imp (z7r (y7H PySem.F.plainAttrs_list PySem.F.slot_list_extend PySem.F.type_list_extend z9W hx (z1l he pa_nil hs) hbase hfew hline hs rfl) hsw) fun D σ H ⟨δ,R,o,rs,q,k⟩=>by
  unfold y4P at q
  cases e1 : f (z0v δ) with
  | none=>rw [e1] at q; cases q
  | some d=>
  rw [e1,am] at q
  split at q
  case h_2=>cases q
  case h_1 es ds ei=>
  split at q
  case isFalse=>cases q
  case isTrue hl=>
  cases q
  obtain ⟨a,xs,A,ev,ha,ts,eR,nd⟩:=rs.top ei
  refine ⟨.ref a,ev,.inl ⟨rfl,xs,SqL.of ha⟩,z0v δ,_,rs.all,e1,fun y H2 C s2 t2 nC fC=>?_⟩
  unfold Tree at t2
  obtain ⟨b,zs,C',rfl,hb,tz,rfl⟩:=t2
  have nC':=(aE.mp nC).2
  refine ⟨a,b,xs,zs,rfl,rfl,s2 _ _ ha,hb,by rw [← ts.length,← tz.length]; exact hl,?_⟩
  have hAC : (A ++ C').Nodup:=aW.mpr ⟨(aE.mp nd).2,nC',fun p hp c hc z=>by
   subst z
   obtain ⟨u,q,_⟩:=Trees.held ds ts p hp
   rw [fC p (af _ hc)] at q; cases q⟩
  have P:=rs.put0 s2 ei ev eR nd ((ts.mono s2).append tz) hAC fun p hp=>(ay.mp hp).imp id fun z=>fC p (af _ z)
  exact k σ _ _ P.1 P.2
end
end L2
namespace L2
open PySem PySem.Spec PyProof.Rows
def insS (x : Int) : List Int->List Int
 | []=>[x]
 | y :: r=>if x≤y then x :: y :: r else y :: insS x r
def y9c : List Int->List Int
 | []=>[]
 | x :: r=>insS x (y9c r)
theorem z7c (x : Int) : ∀ l : List Int,(insS x l).Perm (x :: l)
 | []=>.refl _
 | y :: r=>by
  unfold insS
  split
  ·exact .refl _
  ·exact ((z7c x r).cons y).trans (.swap x y r)
theorem y0i : ∀ l : List Int,(y9c l).Perm l
 | []=>.refl _
 | x :: r=>(z7c x _).trans ((y0i r).cons x)
theorem z7f {x : Int} : ∀ {l : List Int},l.Pairwise (· ≤ ·)->(insS x l).Pairwise (· ≤ ·)
 | [],_=>by unfold insS; simp
 | y :: r,h=>by
  unfold insS
  split
  ·rename_i hxy
   refine aQ.mpr ⟨fun z hz=>?_,h⟩
   rcases aj.mp hz with e | e
   ·omega
   ·have:=(aQ.mp h).1 z e
    omega
  ·rename_i hxy
   refine aQ.mpr ⟨fun z hz=>?_,z7f (aQ.mp h).2⟩
   rcases aj.mp ((z7c x r).mem_iff.mp hz) with e | e
   ·omega
   ·exact (aQ.mp h).1 z e
theorem z6X : ∀ l : List Int,(y9c l).Pairwise (· ≤ ·)
 | []=>.nil
 | _ :: r=>z7f (z6X r)
theorem z7Y : ∀ {a b : List Int},a.Perm b->a.Pairwise (· ≤ ·)->b.Pairwise (· ≤ ·)->a=b
 | [],b,p,_,_=>(List.nil_perm.mp p).symm
 | x :: a,[],p,_,_=>by have:=p.length_eq; simp at this
 | x :: a,y :: b,p,ha,hb=>by
  obtain ⟨ha1,ha2⟩:=aQ.mp ha
  obtain ⟨hb1,hb2⟩:=aQ.mp hb
  have hxy : x=y:=by
   have h1 : x∈y :: b:=p.mem_iff.mp ac
   have h2 : y∈x :: a:=p.mem_iff.mpr ac
   rcases aj.mp h1 with e | e
   ·exact e
   ·rcases aj.mp h2 with e' | e'
    ·exact e'.symm
    ·have:=ha1 y e'
     have:=hb1 x e
     omega
  subst hxy
  rw [z7Y (List.perm_cons x |>.mp p) ha2 hb2]
theorem y7f {a l : List Int} (p : a.Perm l) (h : a.Pairwise (· ≤ ·)) : a=y9c l:=z7Y (p.trans (y0i l).symm) h (z6X l)
section
variable {prog : Program} {w : World} {A : Around} {E : Value->Shared->Prop} {s : Shared}
end
section
variable {X : Cx}
theorem intsV : ∀ {ns : List Int} {vs : List Value},IntsAre vs ns->Vals (ns.map V.int) vs
 | _,_,.nil=>.nil
 | _,_,.cons n t r=>.cons ⟨t,rfl⟩ (intsV r)
variable {e : Expr} {f : DE} {p pos : Pos}
end
end L2
namespace L2
open PySem PySem.Spec PyProof.Rows
section
variable {prog : Program} {w : World} {A : Around} {s : Shared} {R : Result->Shared->Prop}
variable {I : Addr} {fp wr : List Addr} {G : Array GenState->Array GenState->Prop} {n : Nat} {P : Nat->Value->Prop} {St : Nat->Shared->Prop}
theorem y3G : typeLookup (.type "list_reverseiterator") "__len__" = pure none:=by rw [typeLookup_type,builtinLookup_eq_fast]; kernel_rfl
theorem y7W : typeLookup (.type "list_reverseiterator") "__length_hint__" = pure (some (.builtin "list_reverseiterator.__length_hint__")):=by rw [typeLookup_type,builtinLookup_eq_fast]; kernel_rfl
theorem z6s (W : WalksS prog w A.in1 I fp wr G n P St) (hT : ∀ i s,St i s->s.TypeIs (.ref I) "list_reverseiterator") (S : Addr) (res : Value) (c₀ : Nat) (hst : St 0 s) (hSf : S ∉ fp) (hI : I∈fp)
  (hS : s.heap.get? S=some { cls:=.type "list",data:=.seq #[] c₀ })
  (hR : ∀ s' acc' c',Moved (S :: wr) G s s'->s'.heap.get? S=some { cls:=.type "list",dict:=none,data:=.seq acc' c',slots:=#[] }->ItemsOf P acc' n->R (.ok (.ret res)) s') (hn : n≤sizeLine:=by size_fits) :
  wpAny (model prog w) A.in1 (Builtin.List.listExtendWith (.ref S) (.ref I) res)
   (fun fin s'=>match fin with | .done f=>R (.ok f) s' | .again c'=>c'.quiet=true∧codeAny (model prog w) A c' R s') (fun e s'=>R (.error e) s') s:=by
 have hSI : S≠I:=fun e=>hSf (e ▸ hI)
 unfold Builtin.List.listExtendWith
 refine wpAny_bind (wpAny_typeOf (hT 0 _ hst) ?_)
 have h1 : Builtin.List.listSameRef (.ref S) (.ref I)=false:=by simp [Builtin.List.listSameRef,hSI]
 have h2 : (Value.type "list_reverseiterator" == Value.type "list")=false:=by decide
 have h3 : (Value.type "list_reverseiterator" == Value.type "tuple")=false:=by decide
 simp only [h1,h2,h3,dU,cB,if_false]
 refine wpAny_bind (W.self 0 _ _ _ hst ?_)
 refine wpAny_bind (wpAny_holding ?_)
 unfold Builtin.List.listLengthHint
 refine wpAny_bind (wpAny_specialOf (hT 0 _ hst) y3G ?_)
 show wpAny _ A.in1 (specialOf (Value.ref I) (Str.ofString "__length_hint__") >>= _) _ _ _
 refine wpAny_bind (wpAny_specialOf (hT 0 _ hst) y7W ?_)
 generalize hid : ("list_reverseiterator.__length_hint__" : String)=id0
 wp_delta
 rw [show splitId id0=some ("list_reverseiterator", "__length_hint__") from by subst hid; decide +kernel]
 subst hid
 refine wpAny_bind (wpAny_isInstance (T := "list_reverseiterator") (b:=true) (hT 0 _ hst) (by rw [isSubtype_type]; kernel_rfl) ?_)
 refine wpAny_ite_split (fun hab=>absurd hab (by decide)) (fun _=>?_)
 refine wpAny_ite_split (fun _=>?_) (fun hab=>absurd (by decide +kernel) hab)
 refine wpAny_ite_split (fun hab=>absurd hab (by decide +kernel)) (fun _=>?_)
 refine wpAny_pure ?_
 refine wpAny_ite_split (fun hab=>absurd hab (by decide +kernel)) (fun _=>?_)
 refine wpAny_pure ⟨plainId_quiet F.plain_extend_loop _,codeAny_extend_loopS W hn _ hSf _ n 0 _ _ _ rfl (bu _) hst hS (ItemsOf.nil P) fun s' acc' c' hm hS' hacc=>?_⟩
 exact hR s' acc' c' hm hS' hacc
theorem z4V (W : WalksS prog w A.in1 I fp wr G n P St) (hT : ∀ i s,St i s->s.TypeIs (.ref I) "list_reverseiterator") (S : Addr) (hst : St 0 s) (hSf : S ∉ fp) (hI : I∈fp)
  (hS : s.heap.get? S=some { cls:=.type "list",data:=.seq #[] })
  (hR : ∀ s' acc' c',Moved (S :: wr) G s s'->s'.heap.get? S=some { cls:=.type "list",dict:=none,data:=.seq acc' c',slots:=#[] }->ItemsOf P acc' n->R (.ok (.ret .none)) s') (hn : n≤sizeLine:=by size_fits) :
  wpAny (model prog w) A.in1 (Builtin.«list.__init__» ⟨[.ref S,.ref I],[]⟩)
   (fun fin s'=>match fin with | .done f=>R (.ok f) s' | .again c'=>c'.quiet=true∧codeAny (model prog w) A c' R s') (fun e s'=>R (.error e) s') s:=by
 show wpAny _ A.in1 (do let old ← Builtin.List.listItems (.ref S); Builtin.List.listUpdate (.ref S) (fun _=>#[]); letGo old.toList.reverse; Builtin.List.listExtendWith (.ref S) (.ref I) .none) _ _ s
 refine wpAny_bind ?_
 unfold Builtin.List.listItems
 refine wpAny_bind (wpAny_seqItems hS rfl (wpAny_pure ?_))
 show wpAny _ A.in1 (updateSeq S (fun _=>#[]) >>= fun _=>letGo (#[] : Array Value).toList.reverse >>= fun _=>Builtin.List.listExtendWith (.ref S) (.ref I) .none) _ _ s
 refine wpAny_bind (wpAny_updateSeq hS rfl ?_)
 have hS₂:=Heap.get?_update_self (Obj.mapSeq (fun _=>(#[] : Array Value))) hS rfl
 have oth : ∀ b o,b≠S->s.heap.get? b=some o->(s.heap.update S (Obj.mapSeq (fun _=>(#[] : Array Value)))).get? b=some o:=
  fun b o hb e=>(Heap.get?_update_other _ _ (Ne.symm hb)).trans e
 refine wpAny_bind (wpAny_letGo ?_)
 refine z6s (hn:=hn) W hT S .none _ (W.frame 0 s _ s.toks hst (ar _) fun b hb o e=>oth b o (fun h=>hSf (h ▸ hb)) e) hSf hI hS₂ fun s' acc' c' hm hS' hacc=>?_
 exact hR s' acc' c' (Moved.trans W.gtrans ((Moved.refl W.grefl).then_heap (ar _) fun b o hb e=>oth b o (fun h=>hb (h ▸ ac)) e) hm) hS' hacc
end
section
variable {prog : Program} {w : World} {A : Around} {E : Value->Shared->Prop} {s : Shared}
theorem z8H {Q : Value->Shared->Prop} {l I : Addr} {its : List Value} (hh : A.handled=none) (hne : l≠I) (hit : s.heap.IsRevIter I l ((its.length : Int) - 1)) (hl : s.heap.IsList l its.toArray) (hI : I < s.heap.objs.size) (hn : its.length≤sizeLine)
  (hQ : ∀ h' tk c',(∀ b o,b≠I->s.heap.get? b=some o->h'.get? b=some o)->h'.get? s.heap.objs.size=some { cls:=.type "list",dict:=none,data:=.seq its.reverse.toArray c',slots:=#[] }->Q (.ref s.heap.objs.size) { s with heap:=h',toks:=tk }) :
  wpAny (model prog w) A (call (.type "list") [.ref I]) Q E s:=by
 have W:=(Walks.listRev (prog:=prog) (w:=w) (A:=A.in1.in1) hh I l hne its.toArray).toS
 have hll : l < s.heap.objs.size:=by obtain ⟨o,e,_⟩:=hl; exact Heap.lt_size e
 have hSf : s.heap.objs.size ∉ [I,l]:=fun hm=>by
  rcases aj.mp hm with e | e
  ·exact bi _ (e ▸ hI)
  ·exact bi _ ((ai.mp e) ▸ hll)
 have hlen : its.toArray.size=its.length:=by simp
 refine callType_codes (Q₁:=fun obj s₁=>obj = .ref s.heap.objs.size∧s₁ = { s with heap:=s.heap.push { cls:=.type "list",data:=.seq #[] } }) F.called_list (F.typeCall_list_1 _) F.entry_list_init
  (code_list_new _ ⟨rfl,rfl⟩) fun obj s₁ h₁=>?_
 obtain ⟨rfl,rfl⟩:=h₁
 have hS : (s.heap.push { cls:=.type "list",data:=.seq #[] }).get? s.heap.objs.size=some { cls:=.type "list",data:=.seq #[] }:=Heap.get?_push_size _ rfl
 refine ⟨⟨_,hS,rfl⟩,F.args_list_init_2 _ _,z4V (hn:=by rw [hlen]; exact hn) W (fun i s x=>x.2.1.typeIs) _ ⟨bu _,?_,hl.at fun o e=>Heap.get?_push_of_some _ e⟩ hSf (ac ..) hS fun s' acc' c' hm hS' hacc=>?_⟩
 ·have e : ((its.toArray.size : Nat) : Int) - 1 - ((0 : Nat) : Int)=(its.length : Int) - 1:=by rw [hlen]; omega
  rw [e]
  exact hit.at fun o e=>Heap.get?_push_of_some _ e
 ·have ea : acc'=its.reverse.toArray:=by
   obtain ⟨h1,h2⟩:=hacc
   apply eN
   intro i
   by_cases hi : i < acc'.size
   ·have h3:=h2 i acc'[i] (cC hi)
    have hi' : i < its.length:=by rw [← hlen,← h1]; exact hi
    rw [cC hi,cM,eD hi',← h3,hlen,cM]
   ·rw [Array.getElem?_eq_none (by omega),cM,bY (by rw [bG]; omega)]
  subst ea
  rw [Moved.eq_with hm]
  exact ⟨rfl,hQ s'.heap s'.toks c' (fun b o hb e=>hm.heap b o (fun hmem=>by
   rcases aj.mp hmem with e' | hmem
   ·exact absurd (Heap.lt_size e) (by rw [e']; exact bi _)
   ·exact hb (ai.mp hmem)) (Heap.get?_push_of_some _ e)) hS'⟩
end
section
variable {X : Cx}
theorem y8m {xs : List V} {us : List Value} (h : Vals xs us) : Vals xs.reverse us.reverse:=by
 induction h with
 | nil=>exact .nil
 | cons r _ ih=>
  rw [bS,bS]
  exact ih.append (.cons r .nil)
def tRevO (K : aa) (te : TE) : TE:=fun σ H Q=>te σ H fun x H1=>∃ p ys,x = .ref p∧SqL K H1 p ys∧∀ l,H1 l=none->Q (.ref l) (upd H1 l (.lst ys.reverse))
theorem y4d {e : Expr} {te : TE} {p p2 pos pos2 : Pos} (hc : X.calm=true) (hg : Gl X "list") (hm : X.mg "list" = none) (hg2 : Gl X "reversed") (hm2 : X.mg "reversed" = none) (h : PE X e te) (he2 : starEach [e] X.env=[(false,eval e X.env)])
  (he : starEach [.Call (.Name "reversed" p2) [e] [] pos2] X.env=[(false,eval (.Call (.Name "reversed" p2) [e] [] pos2) X.env)]) : PE X (.Call (.Name "list" p) [.Call (.Name "reversed" p2) [e] [] pos2] [] pos) (tRevO X.K te):=by
 intro pins s σ H Q I hq
 refine wpAny_Call_Name_kw (z4O I hg hm PyProof.Rows.Boot.«list» (PyProof.Rows.callWith_type1 ?_ he rfl) (by decide) (by decide))
 rw [he]
 show wpAny _ _ (spliced [(false,eval (.Call (.Name "reversed" p2) [e] [] pos2) X.env)]) _ _ s
 refine Calls.spliced_cons ?_
 refine wpAny_Call_Name_kw (z4O I hg2 hm2 boot_reversed (PyProof.Rows.callWith_type1 (thn ((z1l h pa_nil he2) pos2 pins s σ H (fun vs H1=>match vs with
  | [x]=>∃ p ys,x = .ref p∧SqL X.K H1 p ys∧∀ l,H1 l=none->Q (.ref l) (upd H1 l (.lst ys.reverse))
  | _=>False) I hq) fun us s1 ⟨vs,H1,I1,r1,q1⟩=>?_) he2 rfl) (by decide) (by decide))
 cases r1 with
 | nil=>exact q1.elim
 | cons rx rr=>
  cases rr with
  | cons _ _=>exact q1.elim
  | nil=>
   obtain ⟨a,ys,rfl,hs,k⟩:=q1
   cases rx
   obtain ⟨its,rv,pl,hz⟩:=I1.list hs
   have hl:=pl.isList
   have hlen:=rv.length
   refine call_reversed_list hl ?_
   have eI : (its.toArray.size : Int) - 1=(its.length : Int) - 1:=by simp
   rw [eI]
   have I2 : Inv X pins σ H1 { s1 with heap:=s1.heap.push (revObj a ((its.length : Int) - 1)) }:=I1.kept (t':=s1.toks) fun b o e=>Heap.get?_push_of_some _ e
   refine Calls.spliced_nil ?_
   have al : a < s1.heap.objs.size:=by obtain ⟨o,e,_⟩:=hl; exact Heap.lt_size e
   refine z8H (l:=a) (its:=its) (I2.ok.hd hc) (aF al) ⟨_,Heap.get?_push_size _ rfl,rfl,rfl⟩ (hl.at fun o e=>Heap.get?_push_of_some _ e) (by rw [size_push']; exact dB _) (by omega) fun h' tk c' kp e=>?_
   obtain ⟨f0,f1,f2,f3,f4,f5⟩:=I1.fpOk (b:=s1.heap.objs.size) (ar _) (I1.hok.fresh (ar _))
   have I3 : Inv X pins σ (upd H1 (s1.heap.push (revObj a ((its.length : Int) - 1))).objs.size (.lst ys.reverse)) { s1 with heap:=(s1.heap.push (revObj a ((its.length : Int) - 1))).push { cls:=.type "list",dict:=none,data:=.seq its.reverse.toArray c',slots:=#[] } }:=
    I2.laid (t':=s1.toks) (fun b o e=>Heap.get?_push_of_some _ e) (ar _) (show ObjOk X.prog X.w _ _ _ (.lst ys.reverse) from ⟨by rw [bG]; exact hz,its.reverse,c',y8m rv,Heap.get?_push_size _ rfl⟩)
   have hne : (s1.heap.push (revObj a ((its.length : Int) - 1))).objs.size≠s1.heap.objs.size:=by rw [size_push']; exact Nat.succ_ne_self _
   have I4:=I3.turned (h':=h') (t':=tk) (it:=s1.heap.objs.size) (fun b o hb eb=>by
    rcases Heap.get?_push_cases eb with ⟨rfl,rfl⟩ | eb
    ·exact e
    ·exact kp b o hb eb) (by unfold upd; rw [if_neg (Ne.symm hne)]; exact f0) f1 f3 f4 f5
   exact ⟨.ref _,_,I4,rfl,k _ (I2.hok.fresh (ar _))⟩
def y8e : List D->Option (List D)
 | [.lst ds]=>some ds.reverse
 | _=>none
theorem y2C {K : aa} {H : Hp} {B : Addr->Prop} : ∀ {ds : List D} {xs : List V},Reps K H B ds xs->Reps K H B ds.reverse xs.reverse
 | [],xs,h=>by
  unfold Reps at h
  subst h
  exact .nil
 | d :: ds,xs,h=>by
  unfold Reps at h
  obtain ⟨x,r,rfl,rx,rr⟩:=h
  rw [bS,bS]
  exact (y2C rr).append (.cons rx .nil)
theorem z7S {e : Expr} {f : DE} {p p2 pos pos2 : Pos} (hc : X.calm=true) (hg : Gl X "list") (hm : X.mg "list" = none) (hg2 : Gl X "reversed") (hm2 : X.mg "reversed" = none) (h : PD X e f) (he2 : starEach [e] X.env=[(false,eval e X.env)]:=by rfl)
  (he : starEach [.Call (.Name "reversed" p2) [e] [] pos2] X.env=[(false,eval (.Call (.Name "reversed" p2) [e] [] pos2) X.env)]:=by rfl) : PF X (.Call (.Name "list" p) [.Call (.Name "reversed" p2) [e] [] pos2] [] pos) (z1V y8e [f]):=
 (y4d hc hg hm hg2 hm2 h he2 he).imp fun σ H Q ⟨B,δ,ds,hB,S,q,k⟩=>by
  unfold z1V z0o z0o at q
  cases e1 : f δ with
  | none=>rw [e1] at q; cases q
  | some d=>
  rw [e1] at q
  have q : y8e [d]=some ds:=q
  unfold y8e at q
  split at q
  ·rename_i es z
   cases z
   cases q
   refine ⟨B,δ,_,hB,S,e1,fun v H1 s1 r1=>?_⟩
   unfold Rep at r1
   obtain ⟨a,xs,rfl,_,ha,rs⟩:=r1
   exact ⟨a,xs,rfl,SqL.of ha,fun l hl=>k l _ _ (s1.trans (z0t hl)) (s1.free hl) z0s ((y2C rs).mono (z0t hl))⟩
  ·cases q
end
end L2
namespace L2
open PySem PySem.Spec PyProof.Rows
def Thr (h : Heap) (e T : Addr) (cls : Value) : Prop:=∃ oe vs oT ts,h.get? e=some oe∧oe.cls=cls∧oe.data = .fields vs∧vs[1]? = some (.ref T)∧T≠e∧h.get? T=some oT∧oT.data = .fields ts∧ts[3]? = some .none∧oe.dict=none
def Thr0 (h : Heap) (e : Addr) (cls : Value) : Prop:=∃ oe vs,h.get? e=some oe∧oe.cls=cls∧oe.data = .fields vs∧vs[1]? = some .none∧oe.dict=none
structure Gone (S ch : List Addr) (e : Addr) (cls : Value) (h h' : Heap) : Prop where
 keep : ∀ b o,b ∉ S->b ∉ ch->h.get? b=some o->h'.get? b=some o
 slot : ∀ b o,b∈S->b ∉ ch->h.get? b=some o->∃ sl,h'.get? b=some { o with slots:=sl }
 there : ∀ b o,h.get? b=some o->∃ o',h'.get? b=some o'
 thr : ∃ T,h.objs.size≤T∧Thr h' e T cls
section
variable {M : Model} {A : Around} {E : Value->Shared->Prop} {s : Shared}
theorem y1P {o : Obj} {f : Array Value->Array Value} (h : o.dict=none) : (Obj.mapFields f o).dict=none:=by
 unfold Obj.mapFields
 split <;> exact h
theorem z8t {base : Heap} {env : Env} {outer : List Env} {L e : Addr} {oe : Obj} {vs : Array Value} {head : Value} {hadNext : Bool} {Q : Unit->Shared->Prop}
  (hfr : A.frames=some (env :: outer)) (hl : s.heap.FunFrames base (env :: outer)) (hf : env.frame=some L)
  (he : s.heap.get? e=some oe) (hd : oe.data = .fields vs) (hsz : 1 < vs.size) (hdn : oe.dict=none)
  (h : ∀ h',Gone (frs (env :: outer)) [e] e oe.cls s.heap h'->Q () { s with heap:=h' }) :
  wpAny M A (do let a ← frameOf env; let pl ← entryPlaceOf L hadNext; let b ← EntryCells.newEntry head a .none (rawInt L) .none pl; setField (.ref e) 1 b) (fun _ s'=>wpAny M A (setFlight (.ref e) none) Q E s') E s:=by
 have hene : e ∉ frs (env :: outer):=fun hm=>by
  obtain ⟨_,o,ho,hnf⟩:=hl.mem hm
  rw [he] at ho; injection ho with ho; subst ho; exact hnf vs hd
 refine wpAny_bind (wpAny_frameOf_fun hfr hl hf fun h₁ hs₁=>?_)
 refine wpAny_bind (wpAny_entryPlaceOf fun pl hpl=>?_)
 unfold EntryCells.newEntry newFields
 refine wpAny_bind (wpAny_newObj_type ?_ (hpl.sizeOk5 _ _ _ _ _))
 have he₁ : h₁.get? e=some oe:=(hs₁.2.1 e hene).trans he
 generalize hob : ({ cls:=.type "traceback",dict:=none,data:=.fields ([head,.ref L,.none,rawInt L,.none] ++ (if pl.isEmpty then ae 6 Value.none else pl)).toArray } : Obj)=ob
 have hobd : ob.data = .fields ([head,.ref L,.none,rawInt L,.none] ++ (if pl.isEmpty then ae 6 Value.none else pl)).toArray:=by rw [← hob]
 have hobf : ob.isFreed=false:=by rw [← hob]; rfl
 have he₂:=Heap.get?_push_of_some (h:=h₁) ob he₁
 refine wpAny_setField he₂ hd hsz ?_
 have hTe : h₁.objs.size≠e:=bP (Heap.lt_size he₁)
 have hd₃:=Obj.data_mapFields hd (·.setIfInBounds 1 (Value.ref h₁.objs.size))
 have he₃:=Heap.get?_update_self (Obj.mapFields (·.setIfInBounds 1 (Value.ref h₁.objs.size))) he₂ (Obj.isFreed_of_fields hd₃)
 have hT₃:=(Heap.get?_update_other (h₁.push ob) (Obj.mapFields (·.setIfInBounds 1 (Value.ref h₁.objs.size))) (Ne.symm hTe)).trans (Heap.get?_push_size h₁ hobf)
 unfold setFlight
 refine wpAny_bind (wpAny_field he₃ hd₃ (x:=.ref h₁.objs.size) (by simp [hsz]) ?_)
 rw [if_pos (show (Value.ref h₁.objs.size != Value.none)=true from by simp)]
 refine wpAny_setField hT₃ hobd (by simp only [aD,aH,bb,dH] <;> omega) (h _ ?_)
 have keep : ∀ b o,b≠e->h₁.get? b=some o →
   (((h₁.push ob).update e (Obj.mapFields (·.setIfInBounds 1 (Value.ref h₁.objs.size)))).update h₁.objs.size (Obj.mapFields (·.setIfInBounds 3 ((none : Option Addr).elim Value.none fun f=>rawInt f)))).get? b=some o:=fun b o hbe hb=>by
  have hbT : h₁.objs.size≠b:=bP (Heap.lt_size hb)
  rw [Heap.get?_update_other _ _ hbT,Heap.get?_update_other _ _ (Ne.symm hbe)]
  exact Heap.get?_push_of_some _ hb
 have heF : (((h₁.push ob).update e (Obj.mapFields (·.setIfInBounds 1 (Value.ref h₁.objs.size)))).update h₁.objs.size (Obj.mapFields (·.setIfInBounds 3 ((none : Option Addr).elim Value.none fun f=>rawInt f)))).get? e=some (Obj.mapFields (·.setIfInBounds 1 (Value.ref h₁.objs.size)) oe):=by
  rw [Heap.get?_update_other _ _ hTe]; exact he₃
 refine ⟨fun b o hb hc e1=>?_,fun b o hb hc e1=>?_,fun b o e1=>?_,h₁.objs.size,?_,?_⟩
 ·exact keep b o (fun z=>hc (by simp [z])) ((hs₁.2.1 b hb).trans e1)
 ·obtain ⟨sl,e2⟩:=hs₁.2.2 b o e1
  exact ⟨sl,keep b _ (fun z=>hc (by simp [z])) e2⟩
 ·by_cases hb : b=e
  ·exact ⟨Obj.mapFields (·.setIfInBounds 1 (Value.ref h₁.objs.size)) oe,by rw [hb]; exact heF⟩
  ·obtain ⟨sl,e2⟩:=hs₁.2.2 b o e1
   exact ⟨_,keep b _ hb e2⟩
 ·rw [hs₁.1]
  exact ar _
 ·exact ⟨_,_,_,_,heF,Obj.cls_mapFields _ _,hd₃,by simp [hsz],hTe,Heap.get?_update_self _ hT₃ (Obj.isFreed_of_fields (Obj.data_mapFields hobd _)),Obj.data_mapFields hobd _,by first | (simp; done) | (rcases hpl with rfl | ⟨_,_,_,_,_,_,_,rfl⟩ <;> simp),y1P hdn⟩
theorem y3R {base : Heap} {env : Env} {outer : List Env} {L e : Addr} {cls : Value} {Q : Unit->Shared->Prop}
  (hfr : A.frames=some (env :: outer)) (hl : s.heap.FunFrames base (env :: outer)) (hf : env.frame=some L) (ht : Thr0 s.heap e cls)
  (h : ∀ h',Gone (frs (env :: outer)) [e] e cls s.heap h'->Q () { s with heap:=h' }) : wpAny M A (noteFrame (.ref e) env) (fun _ s'=>wpAny M A (setFlight (.ref e) none) Q E s') E s:=by
 obtain ⟨oe,vs,he,rfl,hd,h1,hdn⟩:=ht
 unfold noteFrame
 simp only [hf]
 refine wpAny_bind (wpAny_field he hd h1 ?_)
 rw [if_neg (by decide)]
 exact z8t hfr hl hf he hd (aR.mp h1).1 hdn h
theorem z9j {base : Heap} {env : Env} {outer : List Env} {L e T : Addr} {cls : Value} {Q : Unit->Shared->Prop}
  (hfr : A.frames=some (env :: outer)) (hl : s.heap.FunFrames base (env :: outer)) (hf : env.frame=some L) (ht : Thr s.heap e T cls)
  (h : ∀ h',Gone (frs (env :: outer)) [e,T] e cls s.heap h'->Q () { s with heap:=h' }) : wpAny M A (noteFrame (.ref e) env) (fun _ s'=>wpAny M A (setFlight (.ref e) none) Q E s') E s:=by
 obtain ⟨oe,vs,oT,ts,he,rfl,hd,h1,hTe,hT,hdT,h3,hdn⟩:=ht
 unfold noteFrame
 simp only [hf]
 refine wpAny_bind (wpAny_field he hd h1 ?_)
 rw [if_pos (show (Value.ref T != Value.none)=true from by simp)]
 refine wpAny_bind (wpAny_field hT hdT h3 ?_)
 rw [if_neg (show ¬ ((Value.none == rawInt L)=true) from by simp [rawInt])]
 refine wpAny_bind (wpAny_setField hT hdT (aR.mp h3).1 ?_)
 have other : ∀ b,b≠T->(s.heap.update T (Obj.mapFields (·.setIfInBounds 3 Value.none))).get? b=s.heap.get? b:=fun b hb=>Heap.get?_update_other _ _ (Ne.symm hb)
 have noRecord : ∀ b o,s.heap.get? b=some o->(∀ vs,o.data≠.fields vs)->b≠T:=fun b o hb hnf q=>by
  rw [q,hT] at hb; injection hb with hb; subst hb; exact hnf ts hdT
 refine z8t hfr (hl.of_keeps fun b o hb hnf=>⟨o,(other b (noRecord b o hb hnf)).trans hb,rfl⟩) hf ((other e (Ne.symm hTe)).trans he) hd (aR.mp h1).1 hdn fun h' G=>h h' ?_
 refine ⟨fun b o hb hc e1=>G.keep b o hb (fun z=>hc (aj.mpr (.inl (ai.mp z)))) ((other b fun z=>hc (by simp [z])).trans e1),fun b o hb hc e1=>G.slot b o hb (fun z=>hc (aj.mpr (.inl (ai.mp z)))) ((other b fun z=>hc (by simp [z])).trans e1),fun b o e1=>?_,?_⟩
 ·by_cases hb : b=T
  ·have e2 : (s.heap.update T (Obj.mapFields (·.setIfInBounds 3 Value.none))).get? b=some (Obj.mapFields (·.setIfInBounds 3 Value.none) oT):=by
    rw [hb]
    exact Heap.get?_update_self _ hT (Obj.isFreed_of_fields (Obj.data_mapFields hdT _))
   exact G.there b _ e2
  ·exact G.there b o ((other b hb).trans e1)
 ·obtain ⟨T',h1,h2⟩:=G.thr
  exact ⟨T',by rwa [Heap.size_after_update] at h1,h2⟩
theorem z6g {env : Env} {e : Value} {Q : Unit->Shared->Prop} (h : wpAny M A (noteFrame e env) (fun _ s'=>wpAny M A (setFlight e none) Q E s') E s) : wpAny M A (leaving env e) Q E s:=by
 unfold leaving
 exact wpAny_bind h
end
end L2
namespace L2
open PySem PySem.Spec PyProof.Rows
theorem ObjOk.some {P : Program} {w : World} {H : Hp} {h : Heap} {a : Addr} {o : HO} (x : ObjOk P w H h a o) : ∃ ob,h.get? a=Option.some ob:=by
 cases q : h.get? a with
 | some ob=>exact ⟨ob,rfl⟩
 | none=>
  have y : ObjOk P w H h a o:=x
  induction o with
  | lst xs=>obtain ⟨_,_,_,_,e⟩:=x; rw [q] at e; cases e
  | tup xs=>obtain ⟨_,_,_,_,e,_⟩:=x; rw [q] at e; cases e
  | dK kvs=>obtain ⟨_,_,_,_,_,_,_,e,_⟩:=x; rw [q] at e; cases e
  | dT kvs=>obtain ⟨_,_,_,_,_,_,_,e,_⟩:=x; rw [q] at e; cases e
  | set S n=>obtain ⟨_,_,_,_,e,_⟩:=x; rw [q] at e; cases e
  | ins C dx fs=>obtain ⟨_,_,_,e,_⟩:=x; rw [q] at e; cases e
  | own y=>obtain ⟨_,e⟩:=x; rw [q] at e; cases e
  | xd fs=>obtain ⟨_,⟨_,_,_,e,_⟩,_⟩:=x; rw [q] at e; cases e
  | met f y=>have e:=x; unfold ObjOk at e; rw [q] at e; cases e
  | rng lo hi=>obtain ⟨_,_,_,e⟩:=x; rw [q] at e; cases e
  | frz ob u ih=>have e:=x.1; rw [q] at e; cases e
  | tbl ps=>have e:=x; unfold ObjOk at e; rw [q] at e; cases e
  | ext φ=>obtain ⟨_,⟨_,e⟩,_⟩:=x; rw [q] at e; cases e
section
variable {X : Cx} {pins : List (Addr × Obj)} {σ : St} {H : Hp} {s : Shared}
def FpX (X : Cx) (pins : List (Addr × Obj)) (H : Hp) (b : Addr) : Prop:=
 H b=none∧b≠X.env.locals∧(b∈X.ex∨X.s₀.heap.get? b=none)∧(∀ x c,X.env.cells.lookup x=some c->c≠b)∧∀ p∈X.pn ++ pins,p.1≠b
theorem Inv.fpX {H' : Hp} {b : Addr} (I : Inv X pins σ H s) (hb : s.heap.get? b=none) (hn : H' b=none) : FpX X pins H' b:=by
 refine ⟨hn,fun z=>?_,?_,fun x c e z=>?_,fun p hp z=>?_⟩
 ·obtain ⟨m,⟨o,_,_,ho,_⟩,_⟩:=I.loc
  rw [← z,hb] at ho
  cases ho
 ·by_cases hx : b∈X.ex
  ·exact .inl hx
  ·refine .inr ?_
   cases q : X.s₀.heap.get? b with
   | none=>rfl
   | some o=>
    obtain ⟨o',e⟩:=I.base.there b o q hx
    rw [hb] at e
    cases e
 ·obtain ⟨v,o,ho,_⟩:=I.cell x c e
  rw [z,hb] at ho
  cases ho
 ·have:=(I.pin p hp).1
  rw [z,hb] at this
  cases this
theorem Inv.fresh0 {b : Addr} (I : Inv X pins σ H s) (hb : s.heap.get? b=none) : H b=none:=by
 cases q : H b with
 | none=>rfl
 | some u=>
  obtain ⟨o,e⟩:=(I.hok b u q).some
  rw [hb] at e
  cases e
theorem Inv.gone3 {ch : List Addr} {h' : Heap} (I : Inv X pins σ H s) (gk : ∀ b o,b ∉ frs X.stack->b ∉ ch->s.heap.get? b=some o->h'.get? b=some o) (gs : ∀ b o,b∈frs X.stack->b ∉ ch->s.heap.get? b=some o->∃ sl,h'.get? b=some { o with slots:=sl }) (gt : ∀ b o,s.heap.get? b=some o->∃ o',h'.get? b=some o') (hch : ∀ b∈ch,FpX X pins H b) : Inv X pins σ H { s with heap:=h' }:=by
 have nS : ∀ b u,H b=some u->b ∉ frs X.stack:=fun b u q z=>by rw [I.stkFree b z] at q; cases q
 have nC : ∀ b u,H b=some u->b ∉ ch:=fun b u q z=>by rw [(hch b z).1] at q; cases q
 have hok : HOk X.prog X.w H h':=fun b u q=>(I.hok b u q).stay (fun c v hc e=>by
  rcases hc with rfl | z
  ·exact gk _ v (nS _ u q) (nC _ u q) e
  ·exact gk c v (nS c _ z) (nC c _ z) e) (fun _ q=>q) fun _ _ q=>q
 have any : ∀ b o,b ∉ ch->s.heap.get? b=some o->∃ sl,h'.get? b=some { o with slots:=sl }:=fun b o hc q=>by
  by_cases hb : b∈frs X.stack
  ·exact gs b o hb hc q
  ·exact ⟨o.slots,gk b o hb hc q⟩
 have new : ∀ b o,X.s₀.heap.get? b=some o->b ∉ X.ex->b ∉ ch:=fun b o q hx z=>by
  rcases (hch b z).2.2.1 with y | y
  ·exact hx y
  ·rw [y] at q; cases q
 have kp : ∀ b o,b≠X.env.locals->b ∉ X.fs->b ∉ ch->s.heap.get? b=some o->h'.get? b=some o:=fun b o hL hb hc q=>
  gk b o (fun z=>(aj.mp (I.stkSub b z)).elim hL hb) hc q
 have old : ∀ b o,X.s₀.heap.get? b=some o->b≠X.env.locals:=fun b o q=>aF (aI (Heap.lt_size q) I.ok.above)
 have cellK : ∀ x c,X.env.cells.lookup x=some c->∀ v,s.heap.IsCell c v->h'.IsCell c v:=fun x c q v ⟨o,ho,hd⟩=>by
  obtain ⟨sl,y⟩:=any c o (fun z=>(hch c z).2.2.2.1 x c q rfl) ho
  exact ⟨_,y,hd⟩
 refine ⟨I.ok,I.os,I.bare,⟨?_,?_,fun b o q n hx=>I.base.free b o q n hx,?_,I.base.tups,I.base.frzs,I.base.tbls⟩,?_,?_,I.free,I.freeC,?_,hok,I.len⟩
 ·exact fun b o q n hb hx=>kp b o (old b o q) hb (new b o q hx) (I.base.keep b o q n hb hx)
 ·intro b o q n hb hx
  obtain ⟨sl,q1⟩:=I.base.slot b o q n hb hx
  obtain ⟨sl',q2⟩:=any b _ (new b o q hx) q1
  exact ⟨sl',q2⟩
 ·intro b o q hx
  obtain ⟨o',q1⟩:=I.base.there b o q hx
  exact gt b o' q1
 ·obtain ⟨m,⟨o,es,ep,ho,r⟩,hl⟩:=I.loc
  obtain ⟨sl,hL⟩:=any _ o (fun z=>(hch _ z).2.1 rfl) ho
  refine ⟨m,⟨_,es,ep,hL,r⟩,fun i x v e1 e2 e3=>?_⟩
  obtain ⟨u,r,l⟩:=hl i x v e1 e2 e3
  exact ⟨u,r,l.imp id fun ⟨k,c,q,z⟩=>⟨k,c,q,cellK x c q _ z⟩⟩
 ·intro x c q
  obtain ⟨v,z⟩:=I.cell x c q
  exact ⟨v,cellK x c q v z⟩
 ·intro p hp
  obtain ⟨q,n,ne,nf,d⟩:=I.pin p hp
  exact ⟨kp p.1 p.2 ne nf (fun z=>(hch p.1 z).2.2.2.2 p hp rfl) q,n,ne,nf,d⟩
theorem Inv.gone {ch : List Addr} {e : Addr} {cls : Value} {h' : Heap} (I : Inv X pins σ H s) (G : Gone (frs X.stack) ch e cls s.heap h') (hch : ∀ b∈ch,FpX X pins H b) : Inv X pins σ H { s with heap:=h' }:=I.gone3 G.keep G.slot G.there hch
end
def CXE (P : Program) (w : World) : CXT:=fun outer H s E e s'=>∃ (ea T : Addr) (cls : Value) (H' : Hp),e = .ref ea∧s'.os=s.os∧AllBare s'.gens∧Un (frs outer) [] H H' s.heap s'.heap∧HOk P w H' s'.heap ∧
 s.heap.get? ea=none∧s.heap.get? T=none∧H' ea=none∧H' T=none∧Thr s'.heap ea T cls∧E cls none H'
section
variable {P : Program} {w : World} {K : aa} {mg : Str->Option Value} {base : Heap} {N : List Str} {qual : Str} {scope : Scope} {f : Addr} {cd : Value} {A : Around} {outer : List Env} {s : Shared} {H : Hp} {E : XK}
theorem y6i {pins : List (Addr × Obj)} {σ : St} {H1 : Hp} {s1 : Shared} {e : Addr} {cls : Value} (I : Inv (z8l (CXE P w) P w K mg base N qual scope f cd A outer s H E) pins σ H1 s1)
  (hf : FpX (z8l (CXE P w) P w K mg base N qual scope f cd A outer s H E) pins H1 e) (ht : Thr0 s1.heap e cls) (hE : E cls none H1) : (z8l (CXE P w) P w K mg base N qual scope f cd A outer s H E).xe (.ref e) s1:=by
 refine z6g (y3R (base:=base) (outer:=outer) I.ok.frames I.stack rfl ht fun h' G=>?_)
 have I':=I.gone G fun b hb=>by rw [ai.mp hb]; exact hf
 obtain ⟨T,hT,th⟩:=G.thr
 have he : s.heap.get? e=none:=by
  rcases hf.2.2.1 with z | z
  ·exact absurd (show e∈([] : List Addr) from z) (by simp)
  ·exact z
 exact ⟨e,T,cls,H1,rfl,I'.os,I'.bare,I'.base,I'.hok,he,Heap.get?_none_of_le (aJ I.sz hT),hf.1,I.hok.fresh hT,th,hE⟩
end
end L2
namespace L2
open PySem PySem.Spec PyProof.Rows
section
variable {X : Cx} {x : Str} {C : Addr} {B Bn newId nid initId inN : String} {bm bmN : List Value} {np cpos pos : Pos} {e₀ : Expr} {te : TE}
def tRaise (te : TE) (R : St->Hp->Prop) : TS:=fun _ σ H=>te σ H fun _ H1=>R σ H1
def Want (X : Cx) (C : Addr) (R : St->Hp->Prop) : Prop:=∀ (pins : List (Addr × Obj)) (σ : St) (H : Hp) (s : Shared) (e : Addr),Inv X pins σ H s->FpX X pins H e->Thr0 s.heap e (.ref C)->R σ H->X.xe (.ref e) s
theorem y8r {R : St->Hp->Prop} (hc : X.calm=true) (hg : Gl X x) (O : OwnCls x C bm newId X.mg X.base) (Fn : ExcBaseFacts Bn newId inN bmN) (hBn : bm.contains (.type Bn)=true) (FB : ExcBaseFacts B nid initId bm) (hW : Want X C R) (h : PE X e₀ te)
  (he : starEach [e₀] X.env=[(false,eval e₀ X.env)]:=by rfl) (hd : (x == ("__debug__" : Str))=false:=by decide) : PS X (.Raise (some (.Call (.Name x np) [e₀] [] cpos)) none pos) (tRaise te R):=by
 intro pins s σ H D I hq
 obtain ⟨tl,N,nm,q,bs,hdct,sn,sub,ab,col,dd,k0,k1,k2,k3,k5,mN,hC,hN,hni,T⟩:=O.obj
 refine wpAny_Raise_call_subU (C:=C) (nm:=nm) (q:=q) (N:=N) (bs:=bs) (bm:=tl) (hdct:=hdct) (sn:=sn) (sub:=sub) (ab:=ab) (col:=col) (dd:=dd) (k0:=k0) (k1:=k1) (k2:=k2) (k3:=k3) (k5:=k5)
  Fn hBn FB (mN:=mN) (T.hasType FB.hasBase) (I.ok.hd hc) (by rw [he]; rfl) hni (z7s I hg O.bound ⟨rfl,?_⟩ hd)
 have ha:=(z1l h pa_nil he) cpos pins s σ H (fun vs H1=>match vs with
  | [_]=>R σ H1
  | _=>False) I hq
 rw [he] at ha ⊢
 refine Calls.evalArgs_plain (thn ha fun us s2 ⟨vs,H2,I2,r2,q2⟩=>?_)
 cases r2 with
 | nil=>exact (show False from q2).elim
 | cons r r3=>
  cases r3 with
  | cons _ _=>exact (show False from q2).elim
  | nil=>
   refine ⟨rfl,by show 1≤sizeLine; rw [sizeLine_eq]; omega,I2.bk _ _ hC,hN.keeps I2.bk,T.keeps I2.bk,fun h' e hm=>?_⟩
   obtain ⟨t,he',_⟩:=hm.there
   have I3 : Inv X pins σ H2 { s2 with heap:=h' }:=I2.kept (t':=s2.toks) hm.keeps
   exact hW pins σ H2 _ e I3 (I2.fpX hm.new (I2.fresh0 hm.new)) ⟨_,_,he',rfl,rfl,rfl,rfl⟩ q2
variable {H0 : Hp} {B0 : Addr->Prop} {fr : Bool} {RX : XR}
def z5E (c : Nat) (f : DE) : SS->Option Out:=fun δ=>(f (z0v δ)).map fun _=>.ex c δ
theorem s_raise {c : Nat} {f : DE} (hc : X.calm=true) (hg : Gl X x) (O : OwnCls x C bm newId X.mg X.base) (Fn : ExcBaseFacts Bn newId inN bmN) (hBn : bm.contains (.type Bn)=true) (FB : ExcBaseFacts B nid initId bm) (hW : Want X C (RX c)) (h : PD X e₀ f)
  (he : starEach [e₀] X.env=[(false,eval e₀ X.env)]:=by rfl) (hd : (x == ("__debug__" : Str))=false:=by decide) : PS X (.Raise (some (.Call (.Name x np) [e₀] [] cpos)) none pos) (tS X.K H0 B0 fr RX (z5E c f)):=
 PS.imp (y8r hc hg O Fn hBn FB hW h he hd) fun D σ H ⟨δ,R,o,rs,q,k⟩=>by
  unfold z5E at q
  cases e : f (z0v δ) with
  | none=>rw [e] at q; cases q
  | some d=>
   rw [e] at q
   cases q
   exact ⟨noB,z0v δ,d,.no,rs.all,e,fun v H1 s1 r1=>k σ H1 R (rs.mono s1) (.same s1)⟩
end
end L2
namespace L2
open PySem PySem.Spec PyProof.Rows
inductive XO where
 | val (d : D) | exc (c : Nat)
def spX (K : aa) (cl : Nat->Value) (m : List D->Option XO) : Sp:=fun vs H Q E=>∃ ds o,Reps K H noB ds vs∧m ds=some o∧(match o with
 | .val d=>∀ v H' A,Same H H'->Tree K H' d v A->A.Nodup->(∀ a∈A,H a=none)->Q v H'
 | .exc c=>∀ H',Same H H'->E (cl c) none H')
def z7t (np nl : Nat) (g : SS->Option Out) : List D->Option XO:=fun ds=>if ds.length=np then (match g (ds.map (fun d=>some (.sh d)) ++ ae nl none) with
 | some (.rt d)=>some (.val d)
 | some (.nx _)=>some (.val .non)
 | some (.ex c _)=>some (.exc c)
 | _=>none) else none
theorem z6G {np nl : Nat} {g : SS->Option Out} {ds : List D} {o : XO} (h : z7t np nl g ds=some o) : ds.length=np:=by
 unfold z7t at h
 split at h
 ·assumption
 ·cases h
abbrev y8w (cl : Nat->Value) (E : XK) : XR:=fun c _ H1=>E (cl c) none H1
section
variable {P : Program} {w : World} {K : aa} {mg : Str->Option Value} {base : Heap}
theorem fnX {x qual : Str} {st : Stmt} {f : Addr} {fd : FuncData} {N ps : List Str} {k np nl : Nat} {g : SS->Option Out} {cl : Nat->Value} (F : Fun K x qual st f fd) (S : FnScope N ps (z0b st)) (hnp : ps.length=np) (hN : N.length=np + nl)
  (hbody : ∀ (cdv : Value) (A : Around) (outer : List Env) (s : Shared) (H : Hp) (E : XK),Room k (A.deeper (envOfC qual (z0b st) s.heap.objs.size f cdv)) →
   PSs (z8l (CXE P w) P w K mg base N qual (z0b st) f cdv A outer s H E) (z0i st) (tS K H noB true (y8w cl E) g)) : FnOk P w K mg base (CXE P w) (k + 1) f fd ps (spX K cl (z7t np nl g)):=by
 obtain ⟨oc,od,kV,doc,pm,an,cdv,ct,osl,rfl,lk,hcd⟩:=F.ex
 refine fn_of lk hcd S (fun vs H Q E h=>?_) fun A outer s H vs Q E hr h=>?_
 ·obtain ⟨ds,o,r,e,_⟩:=h
  rw [← r.length,z6G e,hnp]
 ·obtain ⟨ds,o,r,e,kk⟩:=h
  refine ⟨_,hbody cdv A outer s H E hr,?_⟩
  have hl:=z6G e
  unfold z7t at e
  rw [if_pos hl] at e
  have rs:=z6z (nl:=nl) .no r (N:=N) (by omega)
  split at e
  ·rename_i d' eg
   cases e
   exact ⟨_,_,_,rs,eg,fun v H' z _=>by
    obtain ⟨A',t,nd,fr⟩:=z.2.1 rfl
    exact kk v H' A' z.1 t nd fr⟩
  ·rename_i δ' eg
   cases e
   exact ⟨_,_,_,rs,eg,fun σ' H' R' rs' _=>kk .non H' [] rs'.keep ⟨rfl,rfl⟩ bh (fun a z=>nomatch z)⟩
  ·rename_i c δ' eg
   cases e
   exact ⟨_,_,_,rs,eg,fun σ' H' R' rs' _=>kk H' rs'.keep⟩
  ·cases e
structure DefX (P : Program) (w : World) (K : aa) (mg : Str->Option Value) (base : Heap) (k : Nat) (x : Str) (sp : Sp) : Prop where
 ok : ∃ (f : Addr) (fd : FuncData) (ps : List Str),mg x=some (.ref f)∧ao K (.ref f)=true∧Binds K fd ps []∧FnOk P w K mg base (CXE P w) k f fd ps sp
def XW (X : Cx) (cl : Nat->Value) (RX : XR) : Prop:=∀ (pins : List (Addr × Obj)) (σ : St) (H : Hp) (s : Shared) (ea T : Addr) (c : Nat),Inv X pins σ H s->FpX X pins H ea->FpX X pins H T->Thr s.heap ea T (cl c)->RX c σ H->X.xe (.ref ea) s
theorem z7V {N : List Str} {qual : Str} {scope : Scope} {f : Addr} {cd : Value} {A : Around} {outer : List Env} {s : Shared} {H : Hp} {E : XK} {cl : Nat->Value} : XW (z8l (CXE P w) P w K mg base N qual scope f cd A outer s H E) cl (y8w cl E):=by
 intro pins σ H1 s1 ea T c I fe fT th hE
 refine z6g (z9j (base:=base) (outer:=outer) I.ok.frames I.stack rfl th fun h' G=>?_)
 have I':=I.gone G fun b hb=>by
  rcases aj.mp hb with rfl | hb
  ·exact fe
  ·rw [ai.mp hb]; exact fT
 obtain ⟨T',hT,th'⟩:=G.thr
 have he : s.heap.get? ea=none:=by
  rcases fe.2.2.1 with z | z
  ·exact absurd (show ea∈([] : List Addr) from z) (by simp)
  ·exact z
 exact ⟨ea,T',cl c,H1,rfl,I'.os,I'.bare,I'.base,I'.hok,he,Heap.get?_none_of_le (aJ I.sz hT),fe.1,I.hok.fresh hT,th',hE⟩
theorem z6y {N : List Str} {qual : Str} {scope : Scope} {f C : Addr} {cd : Value} {A : Around} {outer : List Env} {s : Shared} {H : Hp} {E : XK} {cl : Nat->Value} {c : Nat} (hc : cl c = .ref C) : Want (z8l (CXE P w) P w K mg base N qual scope f cd A outer s H E) C (y8w cl E c):=
 fun pins σ H1 s1 e I hf ht hE=>y6i I hf ht (by rw [← hc]; exact hE)
end
section
variable {X : Cx} {k : Nat} {f : Addr} {fd : FuncData} {ps : List Str} {sp : Sp} {cl : Nat->Value} {RX : XR}
theorem run_fnX {pins : List (Addr × Obj)} {σ : St} {H : Hp} {s : Shared} {Q : VK} {us : List Value} {vs : List V} (F : FnOk X.prog X.w X.K X.mg X.base (CXE X.prog X.w) k f fd ps sp) (hr : Room k X.A) (hb : Binds X.K fd ps []) (hW : XW X cl RX)
  (I : Inv X pins σ H s) (r : Vals vs us) (h : sp vs H Q (fun cls _ H'=>∃ c,cls=cl c∧RX c σ H')) : wpAny (model X.prog X.w) X.A (call (.ref f) us) (EP X pins σ Q) X.xe s:=by
 have hl : us.length=ps.length:=by rw [← r.length]; exact F.len _ _ _ _ h
 have hb':=hb s us I.kIn (by rw [aG]; exact hl)
 rw [aG] at hb'
 refine wpAny_call (codeAny_mono (F.run X.A X.stack s H ⟨us,[]⟩ us vs Q _ hr I.env0 hb' r h) fun r s' hq=>?_)
 cases r with
 | error e=>
  obtain ⟨ea,T,cls,H',rfl,os,bare,un,hok,h1,h2,h3,h4,th,c,rfl,rx⟩:=hq
  exact hW pins σ H' s' ea T c (I.call' os un hok bare fun b hb=>nomatch hb) (I.fpX h1 h3) (I.fpX h2 h4) th rx
 | ok fl=>
  cases fl with
  | ret u=>exact I.after hq
  | next=>exact False.elim hq
  | brk=>exact False.elim hq
  | cont=>exact False.elim hq
end
end L2
namespace L2
open PySem PySem.Spec PyProof.Rows
section
variable {X : Cx} {k : Nat} {sp : Sp} {cl : Nat->Value} {RX : XR} {x : Str} {p pos pos2 : Pos} {e : Expr} {es : List Expr} {t : TA}
def tCallX (cl : Nat->Value) (RX : XR) (sp : Sp) (t : TA) : TE:=fun σ H Q=>t σ H fun vs H1=>sp vs H1 Q fun cls _ H'=>∃ c,cls=cl c∧RX c σ H'
theorem y2w (G : DefX X.prog X.w X.K X.mg X.base k x sp) (hr : Room k X.A) (hg : Gl X x) (hW : XW X cl RX) (ha : PA X (e :: es) t) (hdb : (x == ("__debug__" : Str))=false:=by decide)
  (he : starEach (e :: es) X.env=(false,eval e X.env) :: starEach es X.env:=by rfl) (hpl : (backTo pos (starEach es X.env)).any (·.1)=false:=by rfl) : PE X (.Call (.Name x p) (e :: es) [] pos) (tCallX cl RX sp t):=by
 obtain ⟨f,fd,ps,hm,hk,hb,ok⟩:=G.ok
 intro pins s σ H Q I h
 refine wpAny_Call_Name_kw (z7s I hg hm ?_ hdb)
 refine ee (h₀:=X.base) I.ok.mod.kin hk (thn (ha pos pins s σ H _ I h) fun us s1 ⟨vs,H1,I1,r,q⟩=>⟨I1.kIn,?_⟩) he hpl
 exact run_fnX ok hr hb hW I1 r q
def tX (K : aa) (RX : XR) (F : DS->Option XO) : TE:=fun σ H Q=>∃ δ o,RepS K H noB σ δ∧F δ=some o∧(match o with
 | .val d=>∀ v H' A,Same H H'->Tree K H' d v A->A.Nodup->(∀ a∈A,H a=none)->Q v H'
 | .exc c=>∀ H',Same H H'->RX c σ H')
def z1b (m : List D->Option XO) (fl : List DE) : DS->Option XO:=fun δ=>(z0o fl δ).bind m
theorem z5c {m : List D->Option XO} {fl : List DE} (G : DefX X.prog X.w X.K X.mg X.base k x (spX X.K cl m)) (hr : Room k X.A) (hg : Gl X x) (hW : XW X cl RX) (ha : PAD X (e :: es) fl) (hdb : (x == ("__debug__" : Str))=false:=by decide)
  (he : starEach (e :: es) X.env=(false,eval e X.env) :: starEach es X.env:=by rfl) (hpl : (backTo pos (starEach es X.env)).any (·.1)=false:=by rfl) : PE X (.Call (.Name x p) (e :: es) [] pos) (tX X.K RX (z1b m fl)):=
 (y2w G hr hg hW ha hdb he hpl).imp fun σ H Q ⟨δ,o,S,q,kk⟩=>by
  unfold z1b at q
  cases e1 : z0o fl δ with
  | none=>rw [e1] at q; cases q
  | some ds=>
   rw [e1,am] at q
   refine ⟨noB,δ,ds,.no,S,e1,fun vs H1 s1 r1=>⟨ds,o,r1,q,?_⟩⟩
   cases o with
   | val d=>exact fun v H' A s' t nd fr=>kk v H' A (s1.trans s') t nd fun a ha=>s1.free (fr a ha)
   | exc c=>exact fun H' s'=>⟨c,rfl,kk H' (s1.trans s')⟩
variable {H0 : Hp} {B0 : Addr->Prop} {fr : Bool} {F : DS->Option XO}
def retX (F : DS->Option XO) : SS->Option Out:=fun δ=>(F (z0v δ)).map fun o=>match o with
 | .val d=>.rt d
 | .exc c=>.ex c δ
def y1r (F : DS->Option XO) : SS->Option Out:=fun δ=>(F (z0v δ)).map fun o=>match o with
 | .val _=>.nx δ
 | .exc c=>.ex c δ
theorem y5A (h : PE X e (tX X.K RX F)) : PS X (.Return (some e) pos) (tS X.K H0 B0 fr RX (retX F)):=PS.imp (z7d h) fun D σ H ⟨δ,R,o,rs,q,k⟩=>by
 unfold retX at q
 cases e1 : F (z0v δ) with
 | none=>rw [e1] at q; cases q
 | some o1=>
  rw [e1] at q
  refine ⟨z0v δ,o1,rs.all,e1,?_⟩
  cases o1 with
  | val d=>
   cases q
   exact fun v H' A s t nd fr'=>k v H' ⟨rs.keep.trans s,fun _=>⟨A,t,nd,fun a z=>rs.keep.free (fr' a z)⟩,fun _=>t.rep d fun a z=>rs.inB.fresh (rs.keep.free (fr' a z))⟩ fun a z=>s.free z
  | exc c=>
   cases q
   exact fun H' s=>k σ H' R (rs.mono s) (.same s)
theorem y0J (h : PE X e (tX X.K RX F)) (hs : swapsWith e none pos.line X.env=pure false:=by rfl) : PS X (.Expr e pos) (tS X.K H0 B0 fr RX (y1r F)):=PS.imp (z7r h hs) fun D σ H ⟨δ,R,o,rs,q,k⟩=>by
 unfold y1r at q
 cases e1 : F (z0v δ) with
 | none=>rw [e1] at q; cases q
 | some o1=>
  rw [e1] at q
  refine ⟨z0v δ,o1,rs.all,e1,?_⟩
  cases o1 with
  | val d=>
   cases q
   exact fun v H' A s t nd fr'=>k σ H' R (rs.mono s) (Stp.same s)
  | exc c=>
   cases q
   exact fun H' s=>k σ H' R (rs.mono s) (.same s)
end
end L2
namespace L2
open PySem PySem.Spec PyProof.Rows
abbrev Cx.suite (X : Cx) (e : Value) : Cx:={ X with A:=X.A.mark (some e),calm:=false,xe:=fun _ _=>False }
section
variable {X : Cx} {pins : List (Addr × Obj)} {σ : St} {H : Hp} {s : Shared} {e : Value}
theorem Cx.Ok.suite (ok : X.Ok) (e : Value) : (X.suite e).Ok:=
 ⟨ok.mod,ok.kind,ok.glob,ok.blt,ok.above,ok.inj,ok.has,ok.cab,(fun z=>Bool.noConfusion z),ok.frames,ok.stk,ok.exf,ok.bs,ok.bsz,ok.noex,ok.exfs,ok.funs,ok.frf⟩
theorem Inv.suite (I : Inv X pins σ H s) (e : Value) : Inv (X.suite e) pins σ H s:=⟨I.ok.suite e,I.os,I.bare,I.base,I.loc,I.cell,I.free,I.freeC,I.pin,I.hok,I.len⟩
theorem Inv.unsuite (ok : X.Ok) (I : Inv (X.suite e) pins σ H s) : Inv X pins σ H s:=⟨ok,I.os,I.bare,I.base,I.loc,I.cell,I.free,I.freeC,I.pin,I.hok,I.len⟩
theorem SP.unsuite {D : Ends} {f : Flow} {s' : Shared} (ok : X.Ok) (h : SP (X.suite e) pins D f s') : SP X pins D f s':=by
 cases f with
 | next=>obtain ⟨σ',H',I,q⟩:=h; exact ⟨σ',H',I.unsuite ok,q⟩
 | brk=>obtain ⟨σ',H',I,q⟩:=h; exact ⟨σ',H',I.unsuite ok,q⟩
 | cont=>obtain ⟨σ',H',I,q⟩:=h; exact ⟨σ',H',I.unsuite ok,q⟩
 | ret u=>obtain ⟨v,σ',H',I,r,q⟩:=h; exact ⟨v,σ',H',I.unsuite ok,r,q⟩
end
theorem y1B {M : Model} {A : Around} {E : Value->Shared->Prop} {s : Shared} {e T : Addr} {cls : Value} {Q : Unit->Shared->Prop} (th : Thr s.heap e T cls) (h : ∀ h',(∀ b o,s.heap.get? b=some o->h'.get? b=some o)->Q () { s with heap:=h' }) : wpAny M A (setFlight (.ref e) none) Q E s:=by
 obtain ⟨oe,vs,oT,ts,he,_,hd,h1,hTe,hT,hdT,h3,hdn⟩:=th
 unfold setFlight
 refine wpAny_bind (wpAny_field he hd h1 ?_)
 rw [if_pos (show (Value.ref T != Value.none)=true from by simp)]
 refine wpAny_setField hT hdT (aR.mp h3).1 (h _ fun b o q=>?_)
 by_cases hb : b=T
 ·subst hb
  rw [hT] at q
  cases q
  have e1:=Heap.get?_update_self (Obj.mapFields (·.setIfInBounds 3 ((none : Option Addr).elim Value.none fun f=>rawInt f))) hT (Obj.isFreed_of_fields (Obj.data_mapFields hdT _))
  rw [e1]
  congr 1
  obtain ⟨c,d,dt,sl⟩:=oT
  have hdT : dt = .fields ts:=hdT
  subst hdT
  obtain ⟨hlt,h3⟩:=aR.mp h3
  have z : ts.setIfInBounds 3 Value.none=ts:=by
   apply eN
   intro i
   by_cases hi : 3=i
   ·subst hi
    rw [cN hlt,cC hlt,h3]
   ·rw [Array.getElem?_setIfInBounds_ne hi]
  show Obj.mk c d (.fields (ts.setIfInBounds 3 Value.none)) sl=_
  rw [z]
 ·exact (Heap.get?_update_other _ _ (Ne.symm hb)).trans q
section
variable {X : Cx} {cls : Value} {x : Str} {C : Addr} {np hpos : Pos} {b₀ : Stmt} {suite : List Stmt} {rest : List ExceptHandler} {t : TS}
def PH (X : Cx) (hs : List ExceptHandler) (cls : Value) (t : TS) : Prop:=∀ (pins : List (Addr × Obj)) (s : Shared) (σ : St) (H : Hp) (D : Ends) (ea T : Addr),Inv X pins σ H s->FpX X pins H ea->Thr s.heap ea T cls->t D σ H->wpAny (model X.prog X.w) X.A (handleBy (.ref ea) X.env hs) (SP X pins D) X.xe s
theorem thr_ty {M : Model} {h : Heap} {ea T : Addr} (th : Thr h ea T cls) : PySem.W.Looks M h (typeOf (.ref ea)) cls:=by
 obtain ⟨oe,vs,oT,ts,he,rfl,_⟩:=th
 exact (PySem.W.Looks.ld he).andThen .now
end
end L2
namespace L2
open PySem PySem.Spec PyProof.Rows
abbrev Cx.tried (X : Cx) (pn : List (Addr × Obj)) (xe : Value->Shared->Prop) : Cx:={ X with pn:=pn,xe:=xe }
section
variable {X : Cx} {pins pn : List (Addr × Obj)} {xe : Value->Shared->Prop} {σ : St} {H : Hp} {s : Shared}
theorem Cx.Ok.tried (ok : X.Ok) : (X.tried pn xe).Ok:=
 ⟨ok.mod,ok.kind,ok.glob,ok.blt,ok.above,ok.inj,ok.has,ok.cab,ok.hd,ok.frames,ok.stk,ok.exf,ok.bs,ok.bsz,ok.noex,ok.exfs,ok.funs,ok.frf⟩
theorem Inv.tried (I : Inv X pins σ H s) : Inv (X.tried (X.pn ++ pins) xe) [] σ H s:=⟨I.ok.tried,I.os,I.bare,I.base,I.loc,I.cell,I.free,I.freeC,fun p hp=>I.pin p (by simpa using hp),I.hok,I.len⟩
theorem Inv.untried {more : List (Addr × Obj)} (ok : X.Ok) (I : Inv (X.tried (X.pn ++ pins) xe) more σ H s) : Inv X pins σ H s:=⟨ok,I.os,I.bare,I.base,I.loc,I.cell,I.free,I.freeC,fun p hp=>I.pin p (ay.mpr (.inl hp)),I.hok,I.len⟩
theorem FpX.untried {more : List (Addr × Obj)} {b : Addr} (h : FpX (X.tried (X.pn ++ pins) xe) more H b) : FpX X pins H b:=⟨h.1,h.2.1,h.2.2.1,h.2.2.2.1,fun p hp=>h.2.2.2.2 p (ay.mpr (.inl hp))⟩
theorem SP.untried {more : List (Addr × Obj)} {D : Ends} {f : Flow} {s' : Shared} (ok : X.Ok) (h : SP (X.tried (X.pn ++ pins) xe) more D f s') : SP X pins D f s':=by
 cases f with
 | next=>obtain ⟨σ',H',I,q⟩:=h; exact ⟨σ',H',I.untried ok,q⟩
 | brk=>obtain ⟨σ',H',I,q⟩:=h; exact ⟨σ',H',I.untried ok,q⟩
 | cont=>obtain ⟨σ',H',I,q⟩:=h; exact ⟨σ',H',I.untried ok,q⟩
 | ret u=>obtain ⟨v,σ',H',I,r,q⟩:=h; exact ⟨v,σ',H',I.untried ok,r,q⟩
end
def tryO (gb : SS->Option Out) (gh : Nat->SS->Option Out) : SS->Option Out:=fun δ=>(gb δ).bind fun o=>match o with
 | .nx δ'=>some (.nx δ')
 | .ct δ'=>some (.ct δ')
 | .bk δ'=>some (.bk δ')
 | .rt d=>some (.rt d)
 | .rb d δ'=>some (.rb d δ')
 | .ex c δ'=>gh c δ'
section
variable {X : Cx} {H0 : Hp} {B0 : Addr->Prop} {fr : Bool} {RX : XR} {cl : Nat->Value} {body : List Stmt} {h₀ : ExceptHandler} {hs : List ExceptHandler} {pos : Pos}
theorem y2x {g : SS->Option Out} {cls : Value} (hg : ∀ δ,g δ=none) {ks : List ExceptHandler} : PH X ks cls (tS X.K H0 B0 fr RX g):=by
 intro pins s σ H D ea T I fe th ⟨δ,R,o,_,q,_⟩
 rw [hg] at q
 cases q
theorem s_try {gb : SS->Option Out} {gh : Nat->SS->Option Out} (hst : X.stack=X.env :: X.outer) (hfr : X.env.frame=some X.env.locals)
  (hb : ∀ (pn : List (Addr × Obj)) (xe : Value->Shared->Prop) (RX' : XR),XW (X.tried pn xe) cl RX'->PSs (X.tried pn xe) body (tS X.K H0 B0 fr RX' gb))
  (hh : ∀ c,PH X (h₀ :: hs) (cl c) (tS X.K H0 B0 fr RX (gh c))) : PS X (.Try body (h₀ :: hs) [] [] pos) (tS X.K H0 B0 fr RX (tryO gb gh)):=by
 intro pins s σ H D I ⟨δ,R,o,rs,q,k⟩
 unfold tryO at q
 cases e1 : gb δ with
 | none=>rw [e1] at q; cases q
 | some o1=>
  rw [e1,am] at q
  refine wpAny_Try_except ?_
  have ok:=I.ok
  let XE : Value->Shared->Prop:=fun e s₁=>wpAny (model X.prog X.w) X.A (noteFrame e X.env) (fun _ s₂=>wpAny (model X.prog X.w) X.A (setFlight e none) (fun _ s₃=>wpAny (model X.prog X.w) X.A (handleBy e X.env (h₀ :: hs)) (SP X pins D) X.xe s₃) X.xe s₂) X.xe s₁
  have hW : XW (X.tried (X.pn ++ pins) XE) cl (fun c σ' H'=>tS X.K H0 B0 fr RX (gh c) D σ' H'):=by
   intro pins' σ' H' s' ea T c I' fe fT th hR
   have I2 : Inv X pins σ' H' s':=I'.untried ok
   have hf2:=ok.frames
   have hs2:=I2.stack
   rw [hst] at hf2 hs2
   refine z9j (base:=X.base) (outer:=X.outer) hf2 hs2 hfr th fun h' G=>?_
   rw [← hst] at G
   have I3:=I2.gone G fun b hb=>by
    rcases aj.mp hb with rfl | hb
    ·exact fe.untried
    ·rw [ai.mp hb]; exact fT.untried
   obtain ⟨T',_,th'⟩:=G.thr
   exact hh c pins _ σ' H' D ea T' I3 fe.untried th' hR
  have run:=hb (X.pn ++ pins) XE _ hW [] s σ H D I.tried ⟨δ,R,o1,rs,e1,by
   cases o1 with
   | nx δ'=>cases q; exact k
   | ct δ'=>cases q; exact k
   | bk δ'=>cases q; exact k
   | rt d=>cases q; exact k
   | rb d δ'=>cases q; exact k
   | ex c δ'=>exact fun σ' H' R' rs' s'=>⟨δ',R',o,rs',q,k.back s'⟩⟩
  refine wpAny_mono run (fun f s₁ z=>?_) fun _ _ z=>z
  have z:=z.untried ok
  cases f with
  | next=>exact wpAny_execs_nil z
  | brk=>exact z
  | cont=>exact z
  | ret u=>exact z
end
end L2
namespace L2
open PySem PySem.Spec PyProof.Rows
section
variable {K : aa} {H0 H : Hp} {B0 : Addr->Prop} {σ : St} {δ : SS} {R : Nat->List Addr}
def movS (i j : Nat) (d : D) (δ : SS) : SS:=((z0G j δ).set j none).set i (some (.ow d))
theorem z9b {i j k : Nat} {d : D} {x : SD} (h : (movS i j d δ)[k]? = some (some x)) : (k=i∧x = .ow d∧i < δ.length)∨(k≠i∧k≠j∧δ[k]? = some (some x)∧∀ d,x≠.bo j d):=by
 unfold movS at h
 rcases z2D h with ⟨e,q,hl⟩ | ⟨hk,q⟩
 ·cases q
  refine .inl ⟨e,rfl,?_⟩
  rw [dG] at hl
  unfold z0G at hl
  rwa [aq] at hl
 ·rcases z2D q with ⟨e,q',_⟩ | ⟨hj,q'⟩
  ·cases q'
  ·exact .inr ⟨hk,hj,z4v q'⟩
theorem RS.mov {i j : Nat} {d : D} {v : V} (hij : i≠j) (h : RS K H0 B0 H σ δ R) (t : Tree K H d v (R j)) (nd : (R j).Nodup) : RS K H0 B0 H (σ.set i (some v)) (movS i j d δ) (z9h (z9h R j []) i (R j)):=by
 have up : ∀ {k : Nat} {w : V},k≠i->σ[k]? = some (some w)->(σ.set i (some v))[k]? = some (some w):=fun hj e=>by rw [aV (Ne.symm hj)]; exact e
 have mem : ∀ r a,a∈z9h (z9h R j []) i (R j) r->(r=i∧a∈R j)∨(r≠i∧r≠j∧a∈R r):=fun r a z=>by
  by_cases hr : r=i
  ·subst hr; rw [z0V] at z; exact .inl ⟨rfl,z⟩
  ·rw [z1H hr] at z
   by_cases hj : r=j
   ·subst hj; rw [z0V] at z; cases z
   ·rw [z1H hj] at z; exact .inr ⟨hr,hj,z⟩
 refine ⟨h.keep,h.inB,by unfold movS z0G; simp [h.len],fun r a z=>?_,fun r a z=>?_,fun r s a z z'=>?_,fun k d' z=>?_,fun k r' d' z=>?_,fun k d' z=>?_⟩
 ·rcases mem r a z with ⟨_,z⟩ | ⟨_,_,z⟩ <;> exact h.new _ a z
 ·rcases mem r a z with ⟨_,z⟩ | ⟨_,_,z⟩ <;> exact h.held _ a z
 ·rcases mem r a z with ⟨h1,z⟩ | ⟨h1,h1',z⟩ <;> rcases mem s a z' with ⟨h2,z'⟩ | ⟨h2,h2',z'⟩
  ·rw [h1,h2]
  ·exact absurd (h.disj s j a z' z) h2'
  ·exact absurd (h.disj r j a z z') h1'
  ·exact h.disj r s a z z'
 ·rcases z9b z with ⟨_,q,_⟩ | ⟨h1,h2,q,_⟩
  ·cases q
  ·obtain ⟨w,e1,r⟩:=h.sh k d' q
   refine ⟨w,up h1 e1,r.anti fun a z=>z.imp id fun ⟨r,z⟩=>?_⟩
   rcases mem r a z with ⟨_,z⟩ | ⟨_,_,z⟩ <;> exact ⟨_,z⟩
 ·rcases z9b z with ⟨_,q,_⟩ | ⟨h1,h2,q,hn⟩
  ·cases q
  ·obtain ⟨w,e1,r⟩:=h.bo k r' d' q
   have hr' : r'≠j:=fun e=>hn d' (by rw [e])
   refine ⟨w,up h1 e1,r.anti fun a z=>z.imp id fun ⟨s,hs,z⟩=>?_⟩
   rcases mem s a z with ⟨_,z⟩ | ⟨_,_,z⟩
   ·exact ⟨j,Ne.symm hr',z⟩
   ·exact ⟨s,hs,z⟩
 ·rcases z9b z with ⟨e,q,hl⟩ | ⟨h1,h2,q,_⟩
  ·cases q
   subst e
   rw [z0V]
   exact ⟨v,by rw [bL]; simp [← h.len,hl],t,nd⟩
  ·obtain ⟨w,e1,t'⟩:=h.ow k d' q
   rw [z1H h1,z1H h2]
   exact ⟨w,up h1 e1,t'⟩
end
section
variable {X : Cx} {H0 : Hp} {B0 : Addr->Prop} {fr : Bool} {RX : XR} {pos : Pos} {st : Stmt}
def movO (i j : Nat) : SS->Option Out:=fun δ=>match δ[j]? with
 | some (some (.ow d))=>some (.nx (movS i j d δ))
 | _=>none
theorem s_mov {i j : Nat} (hij : i≠j) (h : PAsg X st i (y3i j)) : PS X st (tS X.K H0 B0 fr RX (movO i j)):=PS.imp h fun D σ H ⟨δ,R,o,rs,q,k⟩=>by
 unfold movO at q
 split at q
 ·rename_i d e
  cases q
  obtain ⟨v,e1,t,nd⟩:=rs.ow j d e
  refine ⟨v,e1,k _ H _ (rs.mov hij t nd) ⟨fun a o h _=>h,fun r a z=>?_,fun a z=>z⟩⟩
  by_cases hr : r=i
  ·subst hr; rw [z0V] at z; exact .inl ⟨j,z⟩
  ·rw [z1H hr] at z
   by_cases hj : r=j
   ·subst hj; rw [z0V] at z; cases z
   ·rw [z1H hj] at z; exact .inl ⟨r,z⟩
 ·cases q
end
end L2
namespace L2
open PySem PySem.Spec PyProof.Rows
theorem y9q {X : Cx} {H0 : Hp} {B0 : Addr->Prop} {fr : Bool} {RX : XR} {body : List Stmt} : PSs X body (tS X.K H0 B0 fr RX fun _=>none):=fun _ _ _ _ _ _ ⟨_,_,_,_,e,_⟩=>nomatch e
def Itv (K : aa) (a : Addr) (n : Nat) : It:=
 ⟨fun i H=>i < n∧∃ xs x,SqL K H a xs∧xs[n - 1 - i]? = some x,fun i H v H'=>H'=H∧i < n∧∀ xs,SqL K H a xs->xs[n - 1 - i]? = some v,fun i _=>n≤i⟩
theorem y8E {P : Program} {w : World} {K : aa} {tg : Expr} (a it : Addr) (n : Nat) : Turn P w K tg (Itv K a n) [it] it (fun i h=>i≤n∧h.IsRevIter it a ((n : Int) - 1 - (i : Int))) where
 mem:=by simp
 obj:=fun i h st b hb=>by
  have e : b=it:=by simpa using hb
  subst e
  obtain ⟨_,o,e,c,d⟩:=st
  exact ⟨o,e,fun v z=>by rw [d] at z; cases z⟩
 keep:=fun i h h' st k=>⟨st.1,st.2.at fun o e=>k it (by simp) o e⟩
 item:=by
  intro X hP hw hK hc i pins s σ H E I hf st hg
  subst hP hw hK
  obtain ⟨hi,xs,x,hq,hx⟩:=hg
  obtain ⟨its,rv,p,hz⟩:=I.list hq
  obtain ⟨u,hu,ru⟩:=rv.get hx
  obtain ⟨f0,f1,f2,f3,f4,f5⟩:=hf it (by simp)
  have e1 : (n : Int) - 1 - (i : Int)=((n - 1 - i : Nat) : Int):=by omega
  have st2:=st.2
  rw [e1] at st2
  refine wpAny_pyNext_rev_item st2 p.isList (x:=u) (by simpa using hu) fun h' st' sb=>?_
  have I1 : Inv X pins σ H { s with heap:=h' }:=I.turned (t':=s.toks) (fun b o hb e=>(sb.2 b hb).trans e) f0 f1 f3 f4 f5
  obtain ⟨o,e,c,d⟩:=id st'
  have e2 : ((n - 1 - i : Nat) : Int) - 1=(n : Int) - 1 - ((i + 1 : Nat) : Int):=by omega
  rw [e2] at st'
  exact ⟨u,rfl,y6J (s:={ s with heap:=h' }) e c d (by decide) ⟨x,H,I1,ru,⟨rfl,hi,fun ys hy=>by rw [I.list_inj hy hq]; exact hx⟩,⟨by omega,st'⟩,fun b hb=>(hf b hb).1⟩⟩
 done:=by
  intro X hP hw hK hc i pins s σ H E I hf st hg
  subst hP hw hK
  have hg : n≤i:=hg
  obtain ⟨f0,f1,f2,f3,f4,f5⟩:=hf it (by simp)
  have e1 : (n : Int) - 1 - (i : Int) = -1:=by have:=st.1; omega
  have st2:=st.2
  rw [e1] at st2
  exact wpAny_pyNext_rev_end (I.ok.hd hc) st2 fun h' eb=>⟨rfl,I.turned (t':=s.toks) (fun b o hb e=>eb b o hb e) f0 f1 f3 f4 f5⟩
 self:=fun _ _ _ _ _ st h=>wpAny_pyIter_revIter st.2 h
section
variable {X : Cx}
def iRev (K : aa) (tl : TE) : TI:=fun σ H R=>tl σ H fun x H1=>∃ a xs,[x]=[V.ref a]∧SqL K H1 a xs∧R (Itv K a xs.length) H1
theorem pi_rev {tg : Expr} {p pos : Pos} {l : Expr} {tl : TE} (hg : Gl X "reversed") (hm : X.mg "reversed" = none) (hl : PE X l tl) (hs : starEach [l] X.env=[(false,eval l X.env)]:=by rfl) :
  PI X tg (.Call (.Name "reversed" p) [l] [] pos) (iRev X.K tl):=by
 intro pins s σ H R I h
 have hA : PA X [l] (fun σ H Q=>tl σ H fun x H1=>Q [x] H1):=(z1l hl pa_nil (by rw [hs]; rfl)).imp fun σ H Q q=>q
 refine wpAny_Call_Name_kw (z4O I hg hm boot_reversed (PyProof.Rows.callWith_type1 (thn (hA pos pins s σ H (fun vs H1=>∃ a xs,vs=[V.ref a]∧SqL X.K H1 a xs∧R (Itv X.K a xs.length) H1) I h) fun us s1 ⟨vs,H1,I1,r1,q1⟩=>?_) hs rfl) (by decide) (by decide))
 obtain ⟨a,xs,rfl,hq,q⟩:=q1
 obtain ⟨u,rfl,ru⟩:=r1.one
 cases ru
 obtain ⟨its,rv,pl,hz⟩:=I1.list hq
 have hlen:=rv.length
 refine call_reversed_list pl.isList ?_
 refine wpAny_pyIter_revIter (i:=(its.toArray.size : Int) - 1) ⟨_,Heap.get?_push_size _ rfl,rfl,rfl⟩ ?_
 have I2 : Inv X pins σ H1 { s1 with heap:=s1.heap.push (revObj a ((its.toArray.size : Int) - 1)) }:=I1.kept (t':=s1.toks) fun b o e=>Heap.get?_push_of_some _ e
 refine ⟨s1.heap.objs.size,[s1.heap.objs.size],_,_,H1,rfl,I2,y8E a _ xs.length,⟨bu _,?_⟩,fun b hb=>?_,q⟩
 ·refine ⟨_,Heap.get?_push_size _ rfl,rfl,?_⟩
  have e : (xs.length : Int) - 1 - ((0 : Nat) : Int)=(its.toArray.size : Int) - 1:=by simp; omega
  rw [e]
  rfl
 ·have e : b=s1.heap.objs.size:=by simpa using hb
  subst e
  exact I1.fpOk (ar _) (I1.hok.fresh (ar _))
end
theorem itd_rev {K : aa} {H : Hp} {B : Addr->Prop} {a : Addr} {xs : List V} {ds : List D} (hs : ∀ H',Keep K B H H'->SqL K H' a xs) (r : Reps K H B ds xs) : ItD K (Itv K a xs.length) H B ds.reverse:=by
 have hl:=r.length
 refine ⟨fun i H' kp hi=>?_,fun i H' kp hi=>?_,fun i H' v H2 kp hy=>?_⟩
 ·rw [bG,hl] at hi
  exact ⟨hi,xs,xs[xs.length - 1 - i],hs H' kp,av (by omega)⟩
 ·rw [bG,hl] at hi
  exact hi
 ·obtain ⟨rfl,hi,hx⟩:=hy
  refine ⟨.refl H2,?_⟩
  have hx:=hx xs (hs H2 kp)
  obtain ⟨d,e,rd⟩:=(Reps.keep kp ds r).get' hx
  refine ⟨d,fun _=>?_,rd⟩
  rw [eD (by omega),hl]
  exact e
def revS : D->Option (List D)
 | .lst ds=>some ds.reverse
 | _=>none
def y4c (f : DE) : DS->Option (List D):=fun δ=>(f δ).bind revS
section
variable {X : Cx}
theorem y0Y {tg : Expr} {p pos : Pos} {l : Expr} {f : DE} (hg : Gl X "reversed") (hm : X.mg "reversed" = none) (h : PD X l f) (hs : starEach [l] X.env=[(false,eval l X.env)]:=by rfl) :
  PID X tg (.Call (.Name "reversed" p) [l] [] pos) (y4c f):=(pi_rev hg hm h hs).imp fun σ H R ⟨B,δ,ds,hB,S,q,k⟩=>by
 unfold y4c at q
 cases e : f δ with
 | none=>rw [e] at q; cases q
 | some d=>
  rw [e] at q
  have q' : revS d=some ds:=q
  refine ⟨B,δ,d,hB,S,e,fun v H1 s1 r1=>?_⟩
  unfold revS at q'
  split at q'
  ·cases q'
   unfold Rep at r1
   obtain ⟨a,xs,rfl,n,h,r⟩:=r1
   refine ⟨a,xs,rfl,SqL.of h,k _ H1 s1 fun C hC=>?_⟩
   have na : ¬ (B a∨C a):=fun z=>z.elim n fun z=>by rw [hC a z] at h; cases h
   exact itd_rev (xs:=xs) (fun H' kp=>SqL.of (kp.sl a xs na h)) (Reps.wide hC _ r)
  ·cases q'
end
end L2
namespace L2
open PySem PySem.Spec PyProof.Rows
section
variable {X : Cx} {c e : Expr} {fc : DS->Option Bool} {fe : DE} {f g : DS->Option (Option D)} {st : Stmt} {sts : List Stmt} {p1 pos : Pos}
end
section
variable {X : Cx} {H0 : Hp} {B0 : Addr->Prop} {fr : Bool} {RX : XR} {pos : Pos}
end
end L2
namespace L2
open PySem PySem.Spec PyProof.Rows
abbrev y9i : List Value:=[.type "ValueError",.type "Exception",.type "BaseException",.type "object"]
theorem y1X {K : aa} {h : Heap} {mg : Str->Option Value} {x : Str} {C : Addr} {bl : List Value} {nid : String} (X : K.In h) (G : h.Ns mainGlobals mg) (ha : ag K mainGlobals x=some (some (.ref C))) (hq : bX K C bl nid=true) : OwnCls x C bl nid mg h:=by
 refine ⟨aB X G ha,?_⟩
 unfold bX at hq
 cases hk : K.lookup C with
 | none=>rw [hk] at hq; cases hq
 | some ob=>
  rw [hk] at hq
  have hat:=X _ _ hk
  split at hq
  case h_2=>cases hq
  case h_1 od cls sl z=>
   cases z
   split at hq
   case h_2=>cases hq
   case h_1 C1 tl b0 b1 b2 b3 n b5 em es=>
    simp only [aK,beq_iff_eq,Bool.not_eq_true'] at hq
    obtain ⟨⟨⟨⟨⟨z1,z2⟩,z3⟩,z4⟩,z5⟩,z6⟩:=hq
    cases cls with
    | mk nm bs mro ns qn hd sn sub ab col del=>
     cases sl with
     | mk l=>
      dsimp only at em es z3 z5 z6
      rw [em,es,z3,z1,z2] at hat
      exact ⟨tl,ns,nm,qn,bs,hd,sn,sub,ab,col,od,b0,b1,b2,b3,b5,_,hat,.of_isNs (PySem.W.isNs_of_in X z5),PySem.W.nsMap_none_of_in X z5 z6,PySem.W.tail_of_in X z4⟩
section
variable {X : Cx} {x : Str} {C : Addr} {np cpos pos : Pos} {e₀ : Expr} {H0 : Hp} {B0 : Addr->Prop} {fr : Bool} {RX : XR}
theorem z6D {c : Nat} {f : DE} (hc : X.calm=true) (hg : Gl X x) (O : OwnCls x C y9i "ValueError.__new__" X.mg X.base) (hW : Want X C (RX c)) (h : PD X e₀ f)
  (he : starEach [e₀] X.env=[(false,eval e₀ X.env)]:=by rfl) (hd : (x == ("__debug__" : Str))=false:=by decide) : PS X (.Raise (some (.Call (.Name x np) [e₀] [] cpos)) none pos) (tS X.K H0 B0 fr RX (z5E c f)):=
 s_raise hc hg O PySem.F.excBase_ValueError (by decide) PySem.F.excBase_ValueError hW h he hd
end
end L2
namespace L2
open PySem PySem.Spec PyProof.Rows
def valO : Option XO->Option D
 | some (.val d)=>some d
 | _=>none
def z1g (m : List D->Option XO) (fl : List DE) : DE:=fun δ=>valO (z1b m fl δ)
section
variable {X : Cx} {k : Nat} {cl : Nat->Value} {x : Str} {p pos : Pos} {e : Expr} {es : List Expr}
theorem xw_no : XW X cl noX:=fun _ _ _ _ _ _ _ _ _ _ _ h=>h.elim
theorem z5n {m : List D->Option XO} {fl : List DE} (G : DefX X.prog X.w X.K X.mg X.base k x (spX X.K cl m)) (hr : Room k X.A) (hg : Gl X x) (ha : PAD X (e :: es) fl) (hdb : (x == ("__debug__" : Str))=false:=by decide)
  (he : starEach (e :: es) X.env=(false,eval e X.env) :: starEach es X.env:=by rfl) (hpl : (backTo pos (starEach es X.env)).any (·.1)=false:=by rfl) : PN X (.Call (.Name x p) (e :: es) [] pos) (z1g m fl):=
 (z5c (RX:=noX) G hr hg xw_no ha hdb he hpl).imp fun σ H Q ⟨δ,d,S,q,kk⟩=>by
  unfold z1g at q
  cases e1 : z1b m fl δ with
  | none=>rw [e1] at q; cases q
  | some o=>
   rw [e1] at q
   cases o with
   | exc c=>cases q
   | val d'=>
    cases q
    exact ⟨δ,.val d,S,e1,kk⟩
end
end L2
namespace L2
open PySem PySem.Spec PyProof.Rows
section
variable {X : Cx} {pins : List (Addr × Obj)} {σ : St} {H : Hp} {s : Shared}
theorem Inv.adopt {a : Addr} {u : HO} (I : Inv X pins σ H s) (fa : FpX X pins H a) (new : ObjOk X.prog X.w (upd H a u) s.heap a u) : Inv X pins σ (upd H a u) s:=by
 have ne : ∀ b w,H b=some w->b≠a:=fun b w q z=>by rw [z,fa.1] at q; cases q
 have up : ∀ b w,H b=some w->upd H a u b=some w:=fun b w q=>by rw [z0A (ne b w q)]; exact q
 have dn : ∀ b,b≠a->H b=none->upd H a u b=none:=fun b hb q=>by rw [z0A hb]; exact q
 refine ⟨I.ok,I.os,I.bare,⟨I.base.keep,I.base.slot,fun b o q n hx=>dn b (fun z=>?_) (I.base.free b o q n hx),I.base.there,fun b xs q=>up b _ (I.base.tups b xs q),fun b o w q=>up b _ (I.base.frzs b o w q),fun b ps q=>?_⟩,I.loc,I.cell,dn _ (Ne.symm fa.2.1) I.free,fun x c q=>dn c (fa.2.2.2.1 x c q) (I.freeC x c q),fun p hp=>?_,fun b w q=>?_,I.len⟩
 ·rcases fa.2.2.1 with y | y
  ·exact hx (z ▸ y)
  ·rw [z,y] at q; cases q
 ·obtain ⟨more,q'⟩:=I.base.tbls b ps q
  exact ⟨more,up b _ q'⟩
 ·obtain ⟨e1,e2,e3⟩:=I.pin p hp
  exact ⟨e1,dn p.1 (fa.2.2.2.2 p hp) e2,e3⟩
 ·by_cases hb : b=a
  ·subst hb
   rw [z0s] at q
   cases q
   exact new
  ·rw [z0A hb] at q
   exact (I.hok b w q).stay (fun _ _ _ e=>e) (fun c z=>up c _ z) fun c xs z=>up c _ z
theorem z8v {M : Model} {A : Around} {E : Value->Shared->Prop} {i : Nat} {x : Str} {pos : Pos} {Q : Unit->Shared->Prop} (I : Inv X pins σ H s) (hN : X.N.Nodup) (hi : X.N[i]? = some x) (hk : X.env.scope.names.lookup x=some .local)
  (h : ∀ s',Inv X pins (σ.set i none) H s'->Q () s') : wpAny M A (do bindName X.env x .none; unbindBehindTheSuite X.env x pos) Q E s:=by
 obtain ⟨m,hn,hl⟩:=id I.loc
 have hcl : (X.env.scope.kind == .class || (X.env.scope.kind == .module && X.env.locals != X.env.globals))=false:=by rw [I.ok.kind]; rfl
 refine wpAny_nameGoes_keeps hk hn hcl fun g v hg hs=>h _ ?_
 have old : ∀ b o,X.s₀.heap.get? b=some o->b≠X.env.locals:=fun b o q=>aF (aI (Heap.lt_size q) I.ok.above)
 refine ⟨I.ok,I.os,I.bare,⟨fun b o q n hb hx=>(hs.2 b (old b o q)).trans (I.base.keep b o q n hb hx),fun b o q n hb hx=>?_,I.base.free,fun b o q hx=>?_,I.base.tups,I.base.frzs,I.base.tbls⟩,⟨_,hg,fun j y w e1 e2 e3=>?_⟩,fun y c q=>?_,I.free,I.freeC,fun p hp=>?_,fun b w q=>?_,by simpa using I.len⟩
 ·obtain ⟨sl,q1⟩:=I.base.slot b o q n hb hx
  exact ⟨sl,(hs.2 b (old b o q)).trans q1⟩
 ·obtain ⟨o',q1⟩:=I.base.there b o q hx
  exact ⟨o',(hs.2 b (old b o q)).trans q1⟩
 ·have hji : j≠i:=fun z=>by
   subst z
   rw [bL] at e2
   simp only [if_true] at e2
   split at e2 <;> cases e2
  rw [aV (Ne.symm hji)] at e2
  obtain ⟨u',r',q⟩:=hl j y w e1 e2 e3
  refine ⟨u',r',?_⟩
  have hyx : y≠x:=fun z=>hji (z8s hN e1 (z ▸ hi))
  rcases q with ⟨k,q⟩ | ⟨k,c,q,z⟩
  ·exact .inl ⟨k,by simp [hyx,q]⟩
  ·exact .inr ⟨k,c,q,z.sameBut hs (I.cne y c q)⟩
 ·obtain ⟨w',z⟩:=I.cell y c q
  exact ⟨w',z.sameBut hs (I.cne y c q)⟩
 ·obtain ⟨q,n,ne,nf,d⟩:=I.pin p hp
  exact ⟨(hs.2 p.1 ne).trans q,n,ne,nf,d⟩
 ·refine (I.hok b w q).stay (fun c o hc e=>(hs.2 c fun z=>?_).trans e) (fun _ z=>z) fun _ _ z=>z
  subst z
  rcases hc with z | z
  ·rw [← z,I.free] at q; cases q
  ·rw [I.free] at z; cases z
end
def tAs (i : Nat) (C : Addr) (t : TS) : TS:=fun D σ H=>∀ a,H a=none->t ⟨fun σ' H'=>D.nx (σ'.set i none) H',D.rt,fun σ' H'=>D.bk (σ'.set i none) H',fun σ' H'=>D.ct (σ'.set i none) H'⟩ (σ.set i (some (.ref a))) (upd H a (.ext (isX a C)))
section
variable {X : Cx} {x n : Str} {C Ca : Addr} {np hpos : Pos} {b₀ : Stmt} {suite : List Stmt} {rest : List ExceptHandler} {t : TS} {i : Nat}
theorem ph_as (hg : Gl X x) (hm : X.mg x=some (.ref C)) (hx : bF X.K (.ref Ca) (.ref C)=some true) (hN : X.N.Nodup) (hi : X.N[i]? = some n) (hk : X.env.scope.names.lookup n=some .local) (hb : ∀ e,PSs (X.suite e) (b₀ :: suite) t) (hdb : (x == ("__debug__" : Str))=false:=by decide) :
  PH X (.ExceptHandler (some (.Name x np)) (some n) (b₀ :: suite) hpos :: rest) (.ref Ca) (tAs i Ca t):=by
 intro pins s σ H D ea T I fe th h
 refine wpAny_handleBy_cons (codeAny_handlers_test (z7s (I.suite (.ref ea)) hg hm ?_ hdb)) (by intro q; cases q)
 refine (PySem.W.exm_one I.kIn (thr_ty th) hx).here ?_
 obtain ⟨oe,vs,oT,ts,he,hc,hd,_,_,_,_,_,hdn⟩:=id th
 refine codeAny_handlers_suite_as (y1B th fun h' kp=>?_)
 have I1 : Inv X pins σ H { s with heap:=h' }:=I.kept (t':=s.toks) kp
 have hO : ObjOk X.prog X.w (upd H ea (.ext (isX ea Ca))) h' ea (.ext (isX ea Ca)):=by
  refine ⟨⟨oe,kp _ _ he,hc,hdn,by unfold PySem.W.notCls; rw [hd]⟩,⟨oe,kp _ _ he⟩,fun h1 h2 z k=>?_⟩
  obtain ⟨o,z1,z2⟩:=z
  exact ⟨o,k o z1,z2⟩
 have I2:=I1.adopt fe hO
 refine z8E I2 hN hi (.inl hk) (v:=.ref ea) rfl (fun s2 I3=>?_) (.inr hk)
 refine wpAny_mono (hb (.ref ea) pins s2 _ _ _ (I3.suite (.ref ea)) (h ea fe.1)) (fun f s3 q=>?_) fun _ _ z=>z.elim
 have q:=q.unsuite I.ok
 cases f with
 | next=>obtain ⟨σ',H',J,q⟩:=q; exact z8v J hN hi hk fun s4 J4=>⟨_,H',J4,q⟩
 | brk=>obtain ⟨σ',H',J,q⟩:=q; exact z8v J hN hi hk fun s4 J4=>⟨_,H',J4,q⟩
 | cont=>obtain ⟨σ',H',J,q⟩:=q; exact z8v J hN hi hk fun s4 J4=>⟨_,H',J4,q⟩
 | ret u=>obtain ⟨v,σ',H',J,r,q⟩:=q; exact z8v J hN hi hk fun s4 J4=>⟨v,_,H',J4,r,q⟩
end
section
variable {K : aa} {H0 H : Hp} {B0 : Addr->Prop} {σ : St} {δ : SS} {R : Nat->List Addr}
theorem RS.unset {i : Nat} (h : RS K H0 B0 H σ δ R) : RS K H0 B0 H (σ.set i none) (δ.set i none) R:=by
 have gs : ∀ {j : Nat} {y : SD},(δ.set i none)[j]? = some (some y)->j≠i∧δ[j]? = some (some y):=fun {j y} e=>by
  rcases z2D e with ⟨_,q,_⟩ | q
  ·cases q
  ·exact q
 have up : ∀ {j : Nat} {w : V},j≠i->σ[j]? = some (some w)->(σ.set i none)[j]? = some (some w):=fun hj e=>by rw [aV (Ne.symm hj)]; exact e
 refine ⟨h.keep,h.inB,by simp [h.len],h.new,h.held,h.disj,fun j d z=>?_,fun j r d z=>?_,fun j d z=>?_⟩
 ·obtain ⟨hj,q⟩:=gs z
  obtain ⟨v,e,r⟩:=h.sh j d q
  exact ⟨v,up hj e,r⟩
 ·obtain ⟨hj,q⟩:=gs z
  obtain ⟨v,e,r⟩:=h.bo j r d q
  exact ⟨v,up hj e,r⟩
 ·obtain ⟨hj,q⟩:=gs z
  obtain ⟨v,e,r⟩:=h.ow j d q
  exact ⟨v,up hj e,r⟩
def unO (i : Nat) : Out->Option Out
 | .nx δ=>some (.nx (δ.set i none))
 | .bk δ=>some (.bk (δ.set i none))
 | .ct δ=>some (.ct (δ.set i none))
 | .rt d=>some (.rt d)
 | .rb d δ=>some (.rb d (δ.set i none))
 | .ex _ _=>none
def y5l (i : Nat) (x : Str) (g : SS->Option Out) : SS->Option Out:=fun δ=>(g (δ.set i (some (.sh (.exc x))))).bind (unO i)
theorem PH.imp {X : Cx} {hs : List ExceptHandler} {cls : Value} {t t' : TS} (h : PH X hs cls t) (w : ∀ D σ H,t' D σ H->t D σ H) : PH X hs cls t':=fun pins s σ H D ea T I fe th q=>h pins s σ H D ea T I fe th (w D σ H q)
theorem as_tS {i : Nat} {x : Str} {Ca : Addr} {fr : Bool} {RX : XR} {g : SS->Option Out} (hx : ag K mainGlobals x=some (some (.ref Ca))) (hb : z5e K Ca=true) : ∀ D σ H,tS K H0 B0 fr RX (y5l i x g) D σ H->tAs i Ca (tS K H0 B0 fr RX g) D σ H:=by
 rintro D σ H ⟨δ,R,o,rs,q,k⟩ a ha
 unfold y5l at q
 cases e1 : g (δ.set i (some (.sh (.exc x)))) with
 | none=>rw [e1] at q; cases q
 | some o1=>
  rw [e1,am] at q
  have sm : Same H (upd H a (.ext (isX a Ca))):=z0t ha
  have nb : ¬ (B0 a∨∃ r,a∈R r):=fun z=>by
   obtain ⟨o',q'⟩:=rs.inAll a z
   rw [ha] at q'; cases q'
  have rs1:=(rs.mono sm).setSh (i:=i) (d:=.exc x) (v:=.ref a) (by unfold Rep; exact ⟨a,Ca,rfl,nb,z0s,hx,hb⟩)
  refine ⟨_,R,o1,rs1,e1,?_⟩
  have k:=k.back (Stp.same sm)
  cases o1 with
  | nx δ'=>cases q; exact fun σ' H' R' rs' s'=>k _ H' R' rs'.unset s'
  | bk δ'=>cases q; exact fun σ' H' R' rs' s'=>k _ H' R' rs'.unset s'
  | ct δ'=>cases q; exact fun σ' H' R' rs' s'=>k _ H' R' rs'.unset s'
  | rt d=>cases q; exact k
  | rb d δ'=>cases q; exact fun v σ' H' R' A2 rs' s'=>k v _ H' R' A2 rs'.unset s'
  | ex c δ'=>cases q
end
def y7P (L N : List Str) : D->Option D
 | .exc x=>if N.contains x=true then some (.bl (L.contains x)) else none
 | _=>none
section
variable {X : Cx} {e : Expr} {f : DE} {y : Str} {p p2 pos : Pos} {L N : List Str}
theorem pe_gl {x : Str} {C : Addr} (hg : Gl X x) (hm : X.mg x=some (.ref C)) (hd : (x == ("__debug__" : Str))=false:=by decide) : PE X (.Name x pos) (tC (.ref C)):=fun _ _ _ H _ I h=>z7s I hg hm ⟨.ref C,H,I,rfl,h⟩ hd
theorem y8S {w : V} {c : Value} (hw : RelV w c) (hu : ∀ u,RelV w u->u=c) : z6S X (.builtin "isinstance") (fun xs H Q=>∃ B x v b,xs=[v,w]∧Rep X.K H B (.exc x) v∧(∀ C,ag X.K mainGlobals x=some (some (.ref C))->bc X.K (.ref C) c=some b)∧Q (.bl b) H):=by
 intro pins s σ H xs us Q I r h
 obtain ⟨B,x,v,b,rfl,rv,hk,q⟩:=h
 obtain ⟨u,w',rfl,r1,r2⟩:=vals2 r
 have e:=hu w' r2
 subst e
 unfold Rep at rv
 obtain ⟨a,C,rfl,_,hq,hn,hx⟩:=rv
 cases r1
 obtain ⟨o,ie⟩:=y9K I hq
 exact bd (y2A hx) I.kIn ie (hk C hn) (fun z=>nomatch z) fun tk=>⟨.bl b,H,I.tok tk,rfl,q⟩
theorem rel_ref {C : Addr} : ∀ u,RelV (.ref C) u->u = .ref C:=fun _ r=>r
theorem pd_isX {w : V} {c : Value} (hw : RelV w c) (hu : ∀ u,RelV w u->u=c) (hc : PE X (.Name y p2) (tC w)) (hk : ∀ x,x∈N->∀ C,ag X.K mainGlobals x=some (some (.ref C))->bc X.K (.ref C) c=some (L.contains x)) (hg : Gl X "isinstance") (hm : X.mg "isinstance" = none) (h : PD X e f)
  (he : starEach [e,.Name y p2] X.env=[(false,eval e X.env),(false,eval (.Name y p2) X.env)]:=by rfl) (he2 : starEach [.Name y p2] X.env=[(false,eval (.Name y p2) X.env)]:=by rfl) : PD X (.Call (.Name "isinstance" p) [e,.Name y p2] [] pos) (d1 (y7P L N) f):=
 (z6B (y8S hw hu) hg hm boot_isinstance (z1l h (z1l hc pa_nil he2) (by rw [he,he2])) (by decide) (by decide) (by rw [he,he2]) (by rw [he2]; rfl)).imp fun σ H Q ⟨B,δ,d,hB,S,q,k⟩=>by
  unfold d1 at q
  cases e1 : f δ with
  | none=>rw [e1] at q; cases q
  | some d'=>
   rw [e1,am] at q
   unfold y7P at q
   split at q
   ·rename_i x
    split at q
    ·rename_i hn
     cases q
     exact ⟨B,δ,_,hB,S,e1,fun v H1 s1 r1=>⟨B,x,v,_,rfl,r1,hk x (aC.mp hn),k _ H1 s1 rfl⟩⟩
    ·cases q
   ·cases q
theorem y0H {C : Addr} (hy : Gl X y) (hmy : X.mg y=some (.ref C)) (hk : ∀ x,x∈N->∀ B,ag X.K mainGlobals x=some (some (.ref B))->bc X.K (.ref B) (.ref C)=some (L.contains x)) (hg : Gl X "isinstance") (hm : X.mg "isinstance" = none) (h : PD X e f)
  (he : starEach [e,.Name y p2] X.env=[(false,eval e X.env),(false,eval (.Name y p2) X.env)]:=by rfl) (he2 : starEach [.Name y p2] X.env=[(false,eval (.Name y p2) X.env)]:=by rfl) (hd : (y == ("__debug__" : Str))=false:=by decide) : PD X (.Call (.Name "isinstance" p) [e,.Name y p2] [] pos) (d1 (y7P L N) f):=
 pd_isX (w:=.ref C) (c:=.ref C) rfl rel_ref (pe_gl hy hmy hd) hk hg hm h he he2
end
theorem k_one {P : Str->Prop} {c : Str} {r : List Str} (h : P c) (hr : ∀ x,x∈r->P x) : ∀ x,x∈c :: r->P x:=fun x hx=>by
 rcases aj.mp hx with z | z
 ·rw [z]; exact h
 ·exact hr x z
theorem k_nil {P : Str->Prop} : ∀ x,x∈([] : List Str)->P x:=fun _ h=>nomatch h
section
variable {X : Cx} {H0 : Hp} {B0 : Addr->Prop} {fr : Bool} {RX : XR} {x n xn : Str} {C Ca : Addr} {np hpos : Pos} {b₀ : Stmt} {suite : List Stmt} {rest : List ExceptHandler} {g : SS->Option Out} {i : Nat}
theorem y6R (hn : ag X.K mainGlobals xn=some (some (.ref Ca))) (hxb : z5e X.K Ca=true) (hg : Gl X x) (hm : X.mg x=some (.ref C)) (hx : bF X.K (.ref Ca) (.ref C)=some true) (hN : X.N.Nodup) (hi : X.N[i]? = some n) (hk : X.env.scope.names.lookup n=some .local) (hb : ∀ e,PSs (X.suite e) (b₀ :: suite) (tS X.K H0 B0 fr RX g)) (hdb : (x == ("__debug__" : Str))=false:=by decide) :
  PH X (.ExceptHandler (some (.Name x np)) (some n) (b₀ :: suite) hpos :: rest) (.ref Ca) (tS X.K H0 B0 fr RX (y5l i xn g)):=PH.imp (ph_as hg hm hx hN hi hk hb hdb) (as_tS hn hxb)
end
end L2
namespace L2
open PySem PySem.Spec PyProof.Rows
def tNs (K : aa) (f : DS->Option (List D)) : TA:=fun σ H Q=>∃ δ ds,RepS K H noB σ δ∧f δ=some ds∧∀ vs H' A,Same H H'->Trees K H' ds vs A->A.Nodup->(∀ a∈A,H a=none)->Q vs H'
abbrev PAN (X : Cx) (es : List Expr) (fl : List DE) : Prop:=PA X es (tNs X.K (z0o fl))
theorem Trees.len {K : aa} {H : Hp} : ∀ {ds : List D} {xs : List V} {A : List Addr},Trees K H ds xs A->ds.length=xs.length
 | [],_,_,h=>by unfold Trees at h; rw [h.1]; rfl
 | d :: ds,_,_,h=>by
  unfold Trees at h
  obtain ⟨x,r,C,C',rfl,_,h2,_⟩:=h
  simp [Trees.len h2]
section
variable {X : Cx} {e : Expr} {es : List Expr} {pos : Pos}
theorem pan_nil : PAN X [] []:=pa_nil.imp fun σ H Q ⟨δ,ds,S,q,k⟩=>by
 cases q
 exact k [] H [] (.refl H) ⟨rfl,rfl⟩ bh (fun a z=>nomatch z)
theorem y8Y {f : DE} {fl : List DE} (ha : PN X e f) (hr : PAN X es fl) (hs : starEach (e :: es) X.env=(false,eval e X.env) :: starEach es X.env:=by rfl) : PAN X (e :: es) (f :: fl):=(z1l ha hr hs).imp fun σ H Q ⟨δ,ds,S,q,k⟩=>by
 obtain ⟨x,xs,e1,e2,rfl⟩:=z6c q
 refine ⟨δ,x,S,e1,fun v H1 A s1 t1 nd1 f1=>⟨δ,xs,S.mono s1,e2,fun vs H2 C s2 t2 nd2 f2=>?_⟩⟩
 refine k (v :: vs) H2 (A ++ C) (s1.trans s2) ?_ ?_ fun a ha=>?_
 ·unfold Trees
  exact ⟨v,vs,A,C,rfl,t1.mono s2,t2,rfl⟩
 ·refine aW.mpr ⟨nd1,nd2,fun a ha b hb z=>?_⟩
  subst z
  obtain ⟨o,q',_⟩:=t1.held x a ha
  rw [f2 a hb] at q'; cases q'
 ·rcases ay.mp ha with z | z
  ·exact f1 a z
  ·exact s1.free (f2 a z)
theorem pn_list {fl : List DE} (h : PAN X es fl) (hl : fl.length≤1000:=by decide) : PN X (.List es pos) (mkL (z0o fl)):=(y5H h).imp fun σ H Q ⟨δ,d,S,q,k⟩=>by
 unfold mkL at q
 cases r : z0o fl δ with
 | none=>rw [r] at q; cases q
 | some ds=>
  rw [r] at q
  cases q
  refine ⟨δ,ds,S,r,fun vs H1 A s1 t1 nd fa=>⟨?_,fun p hp=>?_⟩⟩
  ·rw [← t1.len,z3g r]
   exact bV (z7e hl)
  ·have sp:=z0t (o:=.lst vs) hp
   refine k (.ref p) _ (p :: A) (s1.trans sp) ?_ (aE.mpr ⟨fun z=>?_,nd⟩) fun a ha=>?_
   ·unfold Tree
    exact ⟨p,vs,A,rfl,z0s,t1.mono sp,rfl⟩
   ·obtain ⟨o,q',_⟩:=Trees.held ds t1 p z
    rw [hp] at q'; cases q'
   ·rcases aj.mp ha with z | z
    ·rw [z]; exact s1.free hp
    ·exact fa a z
variable {H0 : Hp} {B0 : Addr->Prop} {RX : XR} {a b : Expr} {pos' : Pos}
def y5x (δ : SS) (i : Nat) : Option D:=match δ[i]? with
 | some (some (.ow d))=>some d
 | some (some (.sh d))=>if d.imm=true then some d else none
 | _=>none
def ret2 (i j : Nat) : SS->Option Out:=fun δ=>match y5x δ i,y5x δ j with
 | some d,some e=>some (.rt (.lst [d,e]))
 | _,_=>none
theorem y9p {K : aa} {H : Hp} {σ : St} {δ : SS} {R : Nat->List Addr} {i : Nat} {d : D} (rs : RS K H0 B0 H σ δ R) (h : y5x δ i=some d) : ∃ v A,σ[i]? = some (some v)∧Tree K H d v A∧A.Nodup∧∀ a∈A,a∈R i:=by
 unfold y5x at h
 split at h
 ·rename_i d' e
  cases h
  obtain ⟨v,e1,t,nd⟩:=rs.ow i _ e
  exact ⟨v,R i,e1,t,nd,fun a z=>z⟩
 ·rename_i d' e
  split at h
  ·rename_i hi
   cases h
   obtain ⟨v,e1,r⟩:=rs.sh i _ e
   exact ⟨v,[],e1,r.immTree _ hi,bh,(fun a z=>nomatch z)⟩
  ·cases h
 ·cases h
end
end L2
namespace L2
open PySem PySem.Spec PyProof.Rows
section
variable {X : Cx} {k : Nat} {x : Str} {p pos : Pos} {e : Expr} {es : List Expr}
end
end L2
namespace L2
open PySem PySem.Spec PyProof.Rows
def repLs : D->D->Option (List D)
 | .lst ds,.int k=>if (0≤k∧k≤1000000)∧ds.length * k.toNat≤sizeLine then some (ae k.toNat ds).flatten else none
 | _,_=>none
def dRep (f g : DE) : DS->Option (List D):=fun δ=>(f δ).bind fun x=>(g δ).bind fun y=>repLs x y
theorem Reps.rep {K : aa} {H : Hp} {B : Addr->Prop} {ds : List D} {xs : List V} (h : Reps K H B ds xs) : ∀ n : Nat,Reps K H B (ae n ds).flatten (ae n xs).flatten
 | 0=>(show Reps K H B [] [] by unfold Reps; rfl)
 | n + 1=>by
  rw [bf,bf,bw,bw]
  exact h.append (Reps.rep h n)
def dIxX (F : DS->Option XO) (g : DE) : DS->Option XO:=fun δ=>match F δ with
 | some (.val d)=>(g δ).bind fun y=>(ixD d y).bind fun z=>if z.imm=true then some (.val z) else none
 | some (.exc c)=>some (.exc c)
 | none=>none
section
variable {X : Cx} {a b : Expr} {pos : Pos} {f g : DE} {RX : XR}
theorem x0w (ha : PD X a f) (hb : PD X b g) : PF X (.BinOp a .Mult b pos) (dRep f g):=(pe_op op_rep ha hb).imp fun σ H Q ⟨B,δ,ds,hB,S,q,k⟩=>by
 unfold dRep at q
 cases e1 : f δ with
 | none=>rw [e1] at q; cases q
 | some x=>
 rw [e1,am] at q
 cases e2 : g δ with
 | none=>rw [e2] at q; cases q
 | some y=>
 rw [e2,am] at q
 unfold repLs at q
 split at q
 case h_2=>cases q
 case h_1 xs n=>
 split at q
 case isFalse=>cases q
 case isTrue hl=>
 cases q
 refine ⟨B,δ,_,hB,S,e1,fun v H1 s1 r1=>⟨B,δ,_,hB.mono s1,S.mono s1,e2,fun v2 H2 s2 r2=>?_⟩⟩
 unfold Rep at r2
 subst r2
 unfold Rep at r1
 obtain ⟨p1,vs,rfl,n1,h1,rs1⟩:=r1
 refine ⟨p1,n,vs,rfl,rfl,s2 _ _ h1,by omega,by omega,by rw [← rs1.length]; exact hl.2,fun p hp=>?_⟩
 exact k p _ _ ((s1.trans s2).trans (z0t hp)) ((s1.trans s2).free hp) z0s (((rs1.mono s2).rep _).mono (z0t hp))
theorem px_ix {F : DS->Option XO} (ha : PE X a (tX X.K RX F)) (hb : PD X b g) (hs : z7a b:=by intro _ _; rfl) : PE X (.Subscript a b pos) (tX X.K RX (dIxX F g)):=
 (y8M y7n ha hb hs).imp fun σ H Q ⟨δ,o,S,q,kk⟩=>by
  unfold dIxX at q
  cases e1 : F δ with
  | none=>rw [e1] at q; cases q
  | some o1=>
  rw [e1] at q
  refine ⟨δ,o1,S,e1,?_⟩
  cases o1 with
  | exc c=>
   cases q
   exact kk
  | val d=>
  have q : ((g δ).bind fun y=>(ixD d y).bind fun z=>if z.imm=true then some (XO.val z) else none)=some o:=q
  cases e2 : g δ with
  | none=>rw [e2] at q; cases q
  | some y=>
  rw [e2,am] at q
  cases e3 : ixD d y with
  | none=>rw [e3] at q; cases q
  | some z=>
  rw [e3,am] at q
  split at q
  case isFalse=>cases q
  case isTrue hi=>
  cases q
  intro v H1 A s1 t1 nd1 f1
  refine ⟨noB,δ,y,.no,S.mono s1,e2,fun u H2 s2 r2=>?_⟩
  exact o2_ix H2 noB d y z v u Q .no ((t1.rep d fun _ _ z=>z.elim).mono s2) r2 e3 fun v' H' s' rz=>kk v' H' [] ((s1.trans s2).trans s') (rz.immTree z hi) bh (fun a ha=>nomatch ha)
end
end L2
namespace PySem
open Sem (wp)
theorem y1s : typeLookup (.type "dict") "__len__" = pure (some (.builtin "dict.__len__")):=by rw [typeLookup_type,builtinLookup_eq_fast]; kernel_rfl
section
variable {K : Type} [DecidableEq K] {prog : Program} {w : World} {knd : KeyKind prog w K} {A : Around} {E : Value->Shared->Prop} {s : Shared}
theorem z5q {d : Addr} {kvs : List (K × Value)} {ep : Nat} {Q : List Value->Shared->Prop} (hh : A.in1.handled=none) (hd : (d == sysModules)=false) (hm : s.heap.DictAt knd d kvs ep) (hn : kvs.length≤sizeLine)
  (hQ : ∀ s' acc,Moved [] (fun a b=>b=a) s s'->ItemsOf (fun i v=>∃ k x,kvs[i]? = some (k,x)∧knd.is k v=true) acc kvs.length->Q acc.toList s') : wpAny (model prog w) A (collect (.ref d)) Q E s:=by
 have hlt : (d : Nat) < s.heap.objs.size:=hm.lt_size
 have hSd : s.heap.objs.size≠d:=fun e=>bi _ (e ▸ hlt)
 unfold collect
 refine wpAny_bind (wpAny_runValue (codeAny_builtin F.entry_proto_collect ?_))
 rw [Around.under_plainId F.plain_proto_collect _]
 show wpAny _ A.in1 (newList [] >>= fun l=>again (.builtin "list.__iadd__" ⟨[l,.ref d],[]⟩)) _ _ s
 refine wpAny_bind (wpAny_newObj_type ?_)
 refine wpAny_pure ⟨plainId_quiet F.plain_list_iadd _,codeAny_builtin F.entry_list_iadd ?_⟩
 rw [Around.under_plainId F.plain_list_iadd _]
 have hm1:=hm.push { cls:=.type "list",data:=.seq ([] : List Value).toArray }
 have hT1 : ({ s with heap:=s.heap.push { cls:=.type "list",data:=.seq ([] : List Value).toArray } } : Shared).TypeIs (.ref d) "dict" := hm1.dictOf.typeIs
 have h1 : Builtin.List.listSameRef (.ref s.heap.objs.size) (.ref d)=false:=by simp [Builtin.List.listSameRef,hSd]
 show wpAny _ A.in1 (Builtin.List.listExtendWith (.ref s.heap.objs.size) (.ref d) (.ref s.heap.objs.size)) _ _ _
 unfold Builtin.List.listExtendWith
 refine wpAny_bind (wpAny_typeOf hT1 ?_)
 rw [if_neg (by rw [h1]; decide)]
 refine wpAny_bind (wpAny_pyIter_dict hd hm1 ?_)
 refine wpAny_bind (wpAny_holding ?_)
 unfold Builtin.List.listLengthHint
 have hm2:=hm1.push { cls:=.type "dict_keyiterator",data:=.fields #[.ref d,.int 0 0,.int kvs.length 0,.int ep 0] }
 have hT2:=hm2.dictOf.typeIs (s:={ s with heap:=(s.heap.push { cls:=.type "list",data:=.seq ([] : List Value).toArray }).push { cls:=.type "dict_keyiterator",data:=.fields #[.ref d,.int 0 0,.int kvs.length 0,.int ep 0] } })
 refine wpAny_bind (wpAny_specialOf hT2 y1s ?_)
 (generalize hid : ("dict.__len__" : String)=id0; (fail_if_success (clear hid id0)); wp_delta; rw [show splitId id0=some ("dict", "__len__") from by subst hid; decide +kernel]; subst hid)
 refine wpAny_bind (wpAny_isInstance (b:=true) hT2 (by rw [isSubtype_type]; kernel_rfl) ?_)
 show wpAny _ A.in1 (typeOf (Value.ref d) >>= _) _ _ _
 refine wpAny_bind (wpAny_typeOf hT2 ?_)
 refine wpAny_pure ?_
 show wpAny _ A.in1 (rule "list.extend.makes-room" >>= fun _=>Builtin.List.listTouch (.ref s.heap.objs.size) >>= fun _=>
  again (.builtin "list.extend.loop" ⟨[.ref s.heap.objs.size,.ref (s.heap.push { cls:=.type "list",data:=.seq ([] : List Value).toArray }).objs.size,.ref s.heap.objs.size],[]⟩)) _ _ _
 refine wpAny_bind (wpAny_rule ?_)
 obtain ⟨hA,eA⟩ : ∃ h : Heap,h=s.heap.push { cls:=.type "list",data:=.seq ([] : List Value).toArray }:=⟨_,rfl⟩
 obtain ⟨hB,eB⟩ : ∃ h : Heap,h=hA.push { cls:=.type "dict_keyiterator",data:=.fields #[.ref d,.int 0 0,.int kvs.length 0,.int ep 0] }:=⟨_,rfl⟩
 have sA : hA.objs.size=s.heap.objs.size + 1:=by rw [eA]; simp [Heap.push]
 have hne : d≠hA.objs.size:=aF (aI hlt (by rw [sA]; exact eL _))
 have W:=(Walks.dictKeys (A:=A.in1) (prog:=prog) (w:=w) (knd:=knd) hh hA.objs.size d hne kvs ep).toS
 have hIt : hB.IsKeyIter hA.objs.size d 0 kvs.length ep:=⟨_,by rw [eB]; exact Heap.get?_push_size _ rfl,rfl,rfl⟩
 have hDt : hB.DictAt knd d kvs ep:=by rw [eB,eA]; exact hm2
 have hS₁ : hB.get? s.heap.objs.size=some { cls:=.type "list",data:=.seq ([] : List Value).toArray }:=by rw [eB,eA]; exact Heap.get?_push_of_some _ (Heap.get?_push_size _ rfl)
 have hSf : s.heap.objs.size ∉ [hA.objs.size,d]:=fun hm=>by
  rcases aj.mp hm with z | z
  ·omega
  ·exact hSd (ai.mp z)
 rw [← eA,← eB]
 refine wpAny_bind ?_
 show wpAny _ A.in1 (updateSeq s.heap.objs.size (·.push .none) >>= fun _=>updateSeq s.heap.objs.size (·.pop)) _ _ _
 refine wpAny_bind (wpAny_updateSeq hS₁ rfl ?_)
 have hS₂:=Heap.get?_update_self (Obj.mapSeq (·.push Value.none)) hS₁ rfl
 refine wpAny_updateSeq hS₂ rfl ?_
 have hS₃:=Heap.get?_update_self (Obj.mapSeq (·.pop)) hS₂ rfl
 have oth : ∀ b o,b≠s.heap.objs.size->hB.get? b=some o->((hB.update s.heap.objs.size (Obj.mapSeq (·.push Value.none))).update s.heap.objs.size (Obj.mapSeq (·.pop))).get? b=some o:=
  fun b o hb e=>(Heap.get?_update_other _ _ (Ne.symm hb)).trans ((Heap.get?_update_other _ _ (Ne.symm hb)).trans e)
 refine wpAny_pure ⟨plainId_quiet F.plain_extend_loop _,codeAny_extend_loopS W hn _ hSf _ kvs.length 0 _ _ _ rfl (bu _)
  (W.frame 0 ({ s with heap:=hB } : Shared) _ s.toks ⟨hIt,hDt⟩ (ar _) fun b hb o e=>oth b o (fun h=>hSf (h ▸ hb)) e) hS₃ (ItemsOf.nil _) fun s' acc' c' hmv hS' hacc=>?_⟩
 show wpAny _ A (load s.heap.objs.size >>= _) _ _ s'
 refine wpAny_bind (wpAny_load hS' ?_)
 refine wpAny_pure (hQ s' acc' ⟨fun b o _ e=>?_,hmv.gens,hmv.drawn,hmv.os,hmv.toks⟩ hacc)
 have hb : (b : Nat) < s.heap.objs.size:=Heap.lt_size e
 refine hmv.heap b o (fun z=>?_) (oth b o (aF hb) (by rw [eB,eA]; exact Heap.get?_push_of_some _ (Heap.get?_push_of_some _ e)))
 rcases aj.mp z with z | z
 ·exact aF hb z
 ·exact aF (aI hb (by rw [sA]; exact eL _)) (ai.mp z)
end
end PySem
namespace L2
open PySem PySem.Spec PyProof.Rows
theorem y6n : ∀ {vs : List Value} {ns : List Int},vs.length=ns.length->(∀ (j : Nat) (v : Value) (n : Int),vs[j]? = some v->ns[j]? = some n->∃ t : Tok,v=Value.int n t)->IntsAre vs ns
 | [],[],_,_=>.nil
 | [],_ :: _,h,_=>by cases h
 | _ :: _,[],h,_=>by cases h
 | v :: vs,n :: ns,h,hs=>by
  obtain ⟨t,rfl⟩:=hs 0 v n rfl rfl
  exact .cons n t (y6n (by simpa using h) fun j v n e1 e2=>hs (j + 1) v n (by simpa using e1) (by simpa using e2))
section
variable {prog : Program} {w : World} {A : Around} {E : Value->Shared->Prop} {s : Shared}
theorem y1M {d : Addr} {kvs : List (Key × Value)} {ep : Nat} {ns : List Int} {Q : Value->Shared->Prop} (hh : A.handled=none) (hd : (d == sysModules)=false) (hm : s.heap.DictAt (z1p prog w) d kvs ep) (hk : kvs.map (·.1)=ns.map Sum.inl) (h64 : ns.length < 64)
  (h : ∀ (h1 h' : Heap) (tk : Nat) (out : List Value) (e : Nat) (ns' : List Int),(∀ b o',s.heap.get? b=some o'->h1.get? b=some o')->(∀ b o',h1.get? b=some o'->h'.get? b=some o')->h'.get? h1.objs.size=some { cls:=.type "list",data:=.seq out.toArray e }->IntsAre out ns'->ns'.Perm ns->ns'.Pairwise (· ≤ ·)->Q (.ref h1.objs.size) { s with heap:=h',toks:=tk }) :
  wpAny (model prog w) A (call (.builtin "sorted") [.ref d]) Q E s:=by
 have hl : kvs.length=ns.length:=by rw [← aq (f:=(·.1)),hk,aq]
 refine Calls.call_function_entry kind_sorted plain_sorted entry_sorted (args_sorted1 _) ?_
 unfold Builtin.«sorted»
 refine wpAny_bind (m:=checkCount "sorted" 1 1 _) (wpAny_pure ?_)
 refine wpAny_bind (z5q hh hd hm (by rw [sizeLine_eq]; omega) fun s1 acc mv hit=>?_)
 have hI : IntsAre acc.toList ns:=by
  refine y6n (by rw [ck,hit.1,hl]) fun j v n e1 e2=>?_
  obtain ⟨k,x,e3,e4⟩:=hit.2 j v (by rw [← e1]; simp)
  have e5 : (kvs.map (·.1))[j]? = some k:=by rw [aN,e3]; rfl
  rw [hk,aN,e2] at e5
  cases e5
  rcases z0S (show y0O (Sum.inl n) v=true from e4) with ⟨i,t,z1,z2⟩ | ⟨y,t,z1,z2⟩
  ·cases z1; exact ⟨t,z2⟩
  ·cases z1
 have es:=Moved.eq_with mv
 refine wpAny_bind (wpAny_newList ?_)
 have hoL : (s1.heap.push (seqObj "list" acc.toList.toArray 0)).get? s1.heap.objs.size=some (seqObj "list" acc.toList.toArray 0):=Heap.get?_push_size _ rfl
 show wpAny _ _ _ _ _ { s1 with heap:=s1.heap.push (seqObj "list" acc.toList.toArray 0) }
 have h64' : acc.toList.length < 64:=by rw [ck,hit.1,hl]; exact h64
 refine wpAny_bind (wpAny_holding (wpAny_call_entry slot_list_sort ⟨_,hoL,rfl⟩ entry_list_sort (list_sort_tree hoL hI h64' fun out ns' a1 a2 a3=>⟨_,rfl,?_⟩) (args_list_sort _)))
 obtain ⟨e,he⟩:=sortedHeap_at (out:=out) hoL
 have fin:=h s1.heap _ s1.toks out.toList e ns' (fun b o' hb=>mv.heap b o' (fun z=>nomatch z) hb) (fun b o' hb=>?_) (by simpa [seqObj] using he) a1 a2 a3
 ·refine wpAny_pure ⟨_,rfl,?_⟩
  rw [es]
  exact fin
 ·have hlt : b < s1.heap.objs.size:=Heap.lt_size hb
  rw [sortedHeap_old (aF hlt) (by rw [size_push']; exact cF hlt)]
  exact Heap.get?_push_of_some _ hb
end
section
variable {X : Cx}
theorem y0c (hc : X.calm=true) : z6S X (.builtin "sorted") (fun xs H Q=>∃ (p : Addr) (kvs : List (Key × V)) (ns : List Int),xs=[.ref p]∧H p=some (.dK kvs)∧kvs.map (·.1)=ns.map Sum.inl∧ns.length < 64∧∀ l,H l=none->Q (.ref l) (upd H l (.lst ((y9c ns).map V.int)))):=by
 intro pins s σ H xs us Q I r h
 obtain ⟨p,kvs,ns,rfl,hq,hk,h64,q⟩:=h
 obtain ⟨u,rfl,rx⟩:=y5y r
 cases rx
 obtain ⟨_,hs,vs,rel,dd⟩:=dk_of I.hok hq
 obtain ⟨ep,da⟩:=dd.dictAt
 refine y1M (I.ok.hd hc) hs da (rel.keys.symm.trans hk) h64 fun h1 h' tk out e ns' k1 k2 ho hi hp hs'=>?_
 have es:=y7f hp hs'
 subst es
 have I1 : Inv X pins σ H { s with heap:=h1 }:=I.kept (t':=s.toks) k1
 refine ⟨.ref h1.objs.size,_,Inv.laid (s:={ s with heap:=h1 }) (t':=tk) I1 k2 (ar _) (show ObjOk X.prog X.w _ h' _ (.lst ((y9c ns).map V.int)) from ⟨?_,out,e,intsV hi,ho⟩),rfl,q _ (I1.hok.fresh (ar _))⟩
 rw [aq,hp.length_eq,sizeLine_eq]
 omega
def z5B : List Key->Option (List Int)
 | []=>some []
 | .inl n :: r=>(z5B r).map fun ns=>n :: ns
 | .inr _ :: _=>none
theorem z7P : ∀ {ks : List Key} {ns : List Int},z5B ks=some ns->ks=ns.map Sum.inl
 | [],_,h=>by cases h; rfl
 | .inl n :: r,_,h=>by
  unfold z5B at h
  cases e : z5B r with
  | none=>rw [e] at h; cases h
  | some ns=>
   rw [e] at h
   cases h
   rw [aM,← z7P e]
 | .inr _ :: _,_,h=>by cases h
def z9D : List D->Option (List D)
 | [.dct ks _]=>(z5B ks).bind fun ns=>if ns.length < 64 then some ((y9c ns).map .int) else none
 | _=>none
theorem y9n {K : aa} : OpL K (fun xs H Q=>∃ (p : Addr) (kvs : List (Key × V)) (ns : List Int),xs=[.ref p]∧H p=some (.dK kvs)∧kvs.map (·.1)=ns.map Sum.inl∧ns.length < 64∧∀ l,H l=none->Q (.ref l) (upd H l (.lst ((y9c ns).map V.int)))) z9D:=by
 intro H B ds es vs Q hB hr q k
 unfold z9D at q
 split at q
 ·rename_i ks ds'
  cases e : z5B ks with
  | none=>rw [e] at q; cases q
  | some ns=>
   rw [e,am] at q
   split at q
   ·rename_i h64
    cases q
    obtain ⟨v,rfl,r⟩:=z7p hr
    unfold Rep at r
    obtain ⟨a,kvs,rfl,_,h,hk,_⟩:=r
    exact ⟨a,kvs,ns,rfl,h,by rw [hk,z7P e],h64,fun l hl=>k l _ _ (z0t hl) hl z0s (z3x _)⟩
   ·cases q
 ·cases q
variable {e : Expr} {f : DE} {p pos : Pos}
theorem y3X (hc : X.calm=true) (hg : Gl X "sorted") (hm : X.mg "sorted" = none) (h : PD X e f) (he : starEach [e] X.env=[(false,eval e X.env)]:=by rfl) : PF X (.Call (.Name "sorted" p) [e] [] pos) (z1V z9D [f]):=
 (z6B (y0c hc) hg hm boot_sorted (z0a h z0e he) (by decide) (by decide) he rfl).imp (callL y9n)
end
end L2
namespace L2
open PySem PySem.Spec PyProof.Rows
def mkD1 : D->D->Option D
 | .int a,.int b=>some (.dct [.inl a] [.int b])
 | _,_=>none
def y6N (fk fv : DE) : DE:=d2 mkD1 fk fv
section
variable {X : Cx} {ke ve : Expr} {pos : Pos} {f g : DE}
theorem y8t (hk : PD X ke f) (hv : PD X ve g) : PN X (.Dict [some ke] [ve] pos) (y6N f g):=(pe_disp (y9f hk hv pps_nil) rfl rfl (by simp) (by simp)).imp fun σ H Q ⟨δ,d,S,q,kk⟩=>by
 obtain ⟨dx,dy,e1,e2,e3⟩:=z8G q
 unfold mkD1 at e3
 split at e3
 ·rename_i a b
  cases e3
  intro p hp
  have s0 : Same H (upd H p (.dK [])):=z0t hp
  refine ⟨noB,δ,_,.no,S.mono s0,e1,fun v H2 s2 r2=>⟨noB,δ,_,.no,(S.mono s0).mono s2,e2,fun u H3 s3 r3=>?_⟩⟩
  unfold Rep at r2 r3
  subst r2 r3
  have hp3 : H3 p=some (.dK []):=s3 _ _ (s2 _ _ z0s)
  refine ⟨hp3,[(.inl a,.int b)],rfl,by simp,?_⟩
  refine kk (.ref p) _ [p] (fun c o ec=>?_) ?_ (aE.mpr ⟨fun z=>(nomatch z),bh⟩) fun c hc=>?_
  ·have hcp : c≠p:=fun z=>by rw [z,hp] at ec; cases ec
   rw [z0A hcp]
   exact s3 _ _ (s2 _ _ (s0 _ _ ec))
  ·unfold Tree
   refine ⟨p,[(.inl a,.int b)],[],rfl,z0s,rfl,?_,rfl⟩
   unfold Trees
   exact ⟨.int b,[],[],[],rfl,⟨rfl,rfl⟩,⟨rfl,rfl⟩,rfl⟩
  ·rw [ai.mp hc]; exact hp
 ·cases e3
end
theorem y5K {lo hi : Int} : Builtin.Range.rangeSize lo hi (-1)=(((lo - hi).toNat : Nat) : Int):=by
 unfold Builtin.Range.rangeSize
 rw [if_neg (by decide)]
 by_cases h : hi < lo
 ·rw [if_pos h]
  have : (lo - hi - 1) / 1=lo - hi - 1:=Int.ediv_one _
  simp only [Int.neg_neg]
  omega
 ·rw [if_neg h]
  omega
theorem y6y {a b : Int} (ha : -(2 ^ 61)≤a) (ha' : a < 2 ^ 61) (hb : -(2 ^ 61)≤b) (hb' : b < 2 ^ 61) : Builtin.Range.small a b (-1)=true:=by
 unfold Builtin.Range.small
 rw [y5K]
 simp only [Builtin.Range.rangeFitsLong,aK,Bool.or_eq_true,decide_eq_true_eq,beq_iff_eq]
 rw [if_neg (by decide),aK,decide_eq_true_eq,decide_eq_true_eq]
 omega
section
variable {X : Cx} {tg : Expr}
theorem y5u {pins : List (Addr × Obj)} {σ : St} {H : Hp} {s : Shared} {R : It->Hp->Prop} {E : Value->Shared->Prop} {lo hi : Int} {t u v : Tok} {tk : Nat} (I : Inv X pins σ H s) (h1 : -(2 ^ 61)≤lo) (h2 : lo < 2 ^ 61) (h3 : -(2 ^ 61)≤hi) (h4 : hi < 2 ^ 61)
  (q : R (Itr3 lo (-1) (lo - hi).toNat) H) : wpAny (model X.prog X.w) X.A (pyIter (.ref s.heap.objs.size)) (PIE X pins σ tg R) E { s with heap:=s.heap.push { cls:=.type "range",data:=.fields #[.int lo t,.int hi u,.int (-1) v] },toks:=tk }:=by
 refine wpAny_pyIter_range (IsRange.new ..) (y6y h1 h2 h3 h4) ?_
 have I1 : Inv X pins σ H { s with heap:=s.heap.push { cls:=.type "range",data:=.fields #[.int lo t,.int hi u,.int (-1) v] },toks:=tk }:=I.kept fun b o e=>Heap.get?_push_of_some _ e
 refine ⟨(s.heap.push { cls:=.type "range",data:=.fields #[.int lo t,.int hi u,.int (-1) v] }).objs.size,[(s.heap.push { cls:=.type "range",data:=.fields #[.int lo t,.int hi u,.int (-1) v] }).objs.size],_,_,H,rfl,
  I1.kept (t':=tk) fun b o e=>Heap.get?_push_of_some _ e,y1G _ lo (-1) (lo - hi).toNat,?_,fun b hb=>?_,q⟩
 ·have e1 : lo + ((0 : Nat) : Int) * (-1)=lo:=by simp
  have e2 : (((lo - hi).toNat : Nat) : Int) - ((0 : Nat) : Int)=Builtin.Range.rangeSize lo hi (-1):=by rw [y5K]; simp
  show IsRangeIter _ _ (lo + ((0 : Nat) : Int) * (-1)) ((((lo - hi).toNat : Nat) : Int) - ((0 : Nat) : Int)) (-1)
  rw [e1,e2]
  exact Heap.get?_push_size _ rfl
 ·have e : b=(s.heap.push { cls:=.type "range",data:=.fields #[.int lo t,.int hi u,.int (-1) v] }).objs.size:=by simpa using hb
  subst e
  exact I1.fpOk (ar _) (I1.hok.fresh (ar _))
def iRngN (ta : TA) : TI:=fun σ H R=>ta σ H fun vs H1=>∃ i j : Int,vs=[.int i,.int j,.int (-1)]∧(-(2 ^ 61)≤i∧i < 2 ^ 61∧-(2 ^ 61)≤j∧j < 2 ^ 61)∧R (Itr3 i (-1) (i - j).toNat) H1
theorem y7y {a b c : Expr} {ta : TA} {p pos : Pos} (hg : Gl X "range") (hm : X.mg "range" = none) (ha : PA X [a,b,c] ta) (hs : starEach [a,b,c] X.env=(false,eval a X.env) :: starEach [b,c] X.env:=by rfl) (hpl : (backTo pos (starEach [b,c] X.env)).any (·.1)=false:=by rfl) :
  PI X tg (.Call (.Name "range" p) [a,b,c] [] pos) (iRngN ta):=by
 intro pins s σ H R I h
 refine Call_ (z4O I hg hm boot_range (PyProof.Rows.callWith_type1 (thn (ha pos pins s σ H _ I h) fun us s1 ⟨vs,H1,I1,r1,q1⟩=>?_) hs hpl))
 obtain ⟨i,j,e,hb,q⟩:=q1
 subst e
 obtain ⟨u,v,w,rfl,⟨t1,rfl⟩,⟨t2,rfl⟩,⟨t3,rfl⟩⟩:=r1.three
 exact call_range_3 (by omega) (y5u I1 hb.1 hb.2.1 hb.2.2.1 hb.2.2.2 q) (.inl (PyProof.noPylong_small (by omega)))
def rngN : Option D->Option D->Option D->Option (List D)
 | some (.int i),some (.int j),some (.int c)=>if c = -1∧-(2 ^ 61)≤i∧i < 2 ^ 61∧-(2 ^ 61)≤j∧j < 2 ^ 61 then some (y5h i (-1) (i - j).toNat) else none
 | _,_,_=>none
def y8h (f g h : DE) : DS->Option (List D):=fun δ=>rngN (f δ) (g δ) (h δ)
theorem pi_rngN {a b c : Expr} {f g h : DE} {p pos : Pos} (hg : Gl X "range") (hm : X.mg "range" = none) (ha : PD X a f) (hb : PD X b g) (hc : PD X c h) (hs : starEach [a,b,c] X.env=(false,eval a X.env) :: starEach [b,c] X.env:=by rfl) (hs2 : starEach [b,c] X.env=(false,eval b X.env) :: starEach [c] X.env:=by rfl) (hs3 : starEach [c] X.env=[(false,eval c X.env)]:=by rfl) (hpl : (backTo pos (starEach [b,c] X.env)).any (·.1)=false:=by rfl) :
  PID X tg (.Call (.Name "range" p) [a,b,c] [] pos) (y8h f g h):=
 (y7y hg hm (z0a ha (z0a hb (z0a hc z0e hs3) hs2) hs) hs hpl).imp fun σ H R ⟨B,δ,ds,hB,S,q,k⟩=>by
  unfold y8h rngN at q
  split at q
  ·rename_i i j c e1 e2 e3
   split at q
   ·rename_i hj
    obtain ⟨rfl,hj⟩:=hj
    cases q
    have ea : z0o [f,g,h] δ=some [.int i,.int j,.int (-1)]:=by unfold z0o z0o z0o; rw [e1,e2,e3]; rfl
    refine ⟨B,δ,[.int i,.int j,.int (-1)],hB,S,ea,fun vs H1 s1 r1=>?_⟩
    unfold Reps at r1
    obtain ⟨x,r,rfl,rx,rr⟩:=r1
    unfold Reps at rr
    obtain ⟨y,r',rfl,ry,rr⟩:=rr
    unfold Reps at rr
    obtain ⟨z,r'',rfl,rz,rr⟩:=rr
    unfold Reps at rr
    subst rr
    exact ⟨i,j,by rw [show x=V.int i from rx,show y=V.int j from ry,show z=V.int (-1) from rz],hj,k _ H1 s1 fun C _=>y9j⟩
   ·cases q
  ·cases q
end
theorem Trees.at {K : aa} {H : Hp} : ∀ {ds : List D} {xs : List V} {A : List Addr} {k : Nat} {d : D},Trees K H ds xs A->A.Nodup->ds[k]? = some d->∃ v C,xs[k]? = some v∧Tree K H d v C∧C.Nodup∧∀ a∈C,a∈A
 | [],_,_,_,_,_,_,e=>by cases e
 | d :: ds,xs,A,k,d',h,nd,e=>by
  unfold Trees at h
  obtain ⟨x,r,C,C',rfl,h1,h2,rfl⟩:=h
  have n2:=aW.mp nd
  cases k with
  | zero=>cases e; exact ⟨x,C,rfl,h1,n2.1,fun a ha=>ay.mpr (.inl ha)⟩
  | succ k=>
   obtain ⟨v,D',e1,t1,nd1,sb⟩:=Trees.at (k:=k) h2 n2.2.1 (by simpa using e)
   exact ⟨v,D',by simpa using e1,t1,nd1,fun a ha=>ay.mpr (.inr (sb a ha))⟩
def ixL : D->D->Option D
 | .lst ds,.int i=>atI ds i
 | _,_=>none
section
variable {X : Cx} {a b : Expr} {pos : Pos} {f g : DE}
theorem pn_ixN (ha : PN X a f) (hb : PD X b g) (hs : z7a b:=by intro _ _; rfl) : PN X (.Subscript a b pos) (d2 ixL f g):=(y8M y7n ha hb hs).imp fun σ H Q ⟨δ,d,S,q,k⟩=>by
 obtain ⟨dx,dy,e1,e2,e3⟩:=z8G q
 unfold ixL at e3
 split at e3
 ·rename_i ds i
  refine ⟨δ,_,S,e1,fun v H1 A s1 t1 nd1 f1=>⟨noB,δ,_,.no,S.mono s1,e2,fun u H2 s2 r2=>?_⟩⟩
  unfold Rep at r2
  subst r2
  have t2:=t1.mono s2
  unfold Tree at t2
  obtain ⟨p,xs,C,rfl,hp,ts,rfl⟩:=t2
  have hl:=ts.len
  unfold atI at e3
  cases e4 : ixN ds.length i with
  | none=>rw [e4] at e3; cases e3
  | some j=>
   rw [e4] at e3
   obtain ⟨v',C',e5,t5,nd5,sb⟩:=ts.at (aE.mp nd1).2 (show ds[j]? = some d from e3)
   have e6 : atI xs i=some v':=by
    unfold atI
    rw [← hl,e4]
    exact e5
   exact .inl ⟨p,xs,i,v',rfl,rfl,SqL.of hp,e6,k v' H2 C' (s1.trans s2) t5 nd5 fun a ha=>f1 a (af _ (sb a ha))⟩
 ·cases e3
end
end L2
namespace L2
open PySem PySem.Spec PyProof.Rows
def twoD : D->Option (D × D)
 | .tup [a,b]=>some (a,b)
 | _=>none
theorem y6V {d : D} {z : D × D} (h : twoD d=some z) : d = .tup [z.1,z.2]:=by
 unfold twoD at h
 split at h
 ·cases h; rfl
 ·cases h
def z5G (i j : Nat) (b : SS->Option Out) : List D->SS->Option Out
 | [],δ=>some (.nx δ)
 | d :: r,δ=>(twoD d).bind fun z=>(b ((δ.set i (some (.sh z.1))).set j (some (.sh z.2)))).bind fun o=>match o with
  | .nx δ'=>z5G i j b r δ'
  | .ct δ'=>z5G i j b r δ'
  | .bk δ'=>some (.nx δ')
  | .rt d=>some (.rt d)
  | .rb d δ'=>some (.rb d δ')
  | .ex c δ'=>some (.ex c δ')
def y8G (i j : Nat) (f : DS->Option (List D)) (g : SS->Option Out) : SS->Option Out:=fun δ=>(f (shV δ)).bind fun ds=>z5G i j g ds δ
section
variable {X : Cx} {H0 : Hp} {B0 : Addr->Prop} {fr : Bool} {RX : XR} {pos : Pos}
def gPair (K : aa) (i j : Nat) : TG:=gTup K 2 (y6L (z2Z i) (y6L (z2Z j) gNil))
theorem s_for2 {i j : Nat} {tg : Expr} {iter : Expr} {body : List Stmt} {f : DS->Option (List D)} {g : SS->Option Out} (hp : PassesOwn (model X.prog X.w) X.A X.env X.xe) (hc : X.calm=true) (hi : PID X tg iter f) (hg : PG X tg (gPair X.K i j)) (hb : PSs X body (tS X.K H0 B0 fr RX g))
  (hs : ∀ x,foldedSetIterable iter X.env x=pure x:=by intro _; rfl) : PS X (.For tg iter body [] pos) (tS X.K H0 B0 fr RX (y8G i j f g)):=PS.imp (y9P hp hc hi hg hb hs) fun D σ H ⟨δ,R,o,rs,q,k⟩=>by
 unfold y8G at q
 cases e : f (shV δ) with
 | none=>rw [e] at q; cases q
 | some ds=>
 rw [e] at q
 have q : z5G i j g ds δ=some o:=q
 refine ⟨_,shV δ,ds,rs.inAll,rs.shr,e,fun J H1 s1 itw=>?_⟩
 have rs1:=rs.mono s1
 have it:=itw (fun a=>H1 a=none) fun a z=>z
 refine ⟨fun n m σ' H'=>m=ds.length - n∧n≤ds.length∧∃ δ' R',RS X.K H0 B0 H' σ' δ' R'∧Stp R H1 R' H'∧z5G i j g (ds.drop n) δ'=some o,⟨ds.length,by simp,bu _,δ,R,rs1,.refl R H1,q⟩,?_⟩
 rintro n m σ' H' ⟨rfl,hn,δ',R',rs',s',q'⟩
 have kp : Keep X.K (fun a=>(B0 a∨∃ r,a∈R r)∨H1 a=none) H1 H':=s'.keepB (fun r a z=>.inl (.inr ⟨r,z⟩)) rs1.held
 by_cases hlt : n < ds.length
 ·have hx : ds.drop n=ds[n] :: ds.drop (n + 1):=bn hlt
  rw [hx] at q'
  unfold z5G at q'
  cases et : twoD ds[n] with
  | none=>rw [et] at q'; cases q'
  | some z=>
  rw [et,am] at q'
  cases eb : g ((δ'.set i (some (.sh z.1))).set j (some (.sh z.2))) with
  | none=>rw [eb] at q'; cases q'
  | some ob=>
   rw [eb] at q'
   refine .inr ⟨it.go n H' kp hlt,fun σ2 H2=>n + 1≤ds.length∧∃ δ2 R2,RS X.K H0 B0 H2 σ2 δ2 R2∧Stp R H1 R2 H2∧z5G i j g (ds.drop (n + 1)) δ2=some o,fun σ2 H2 z=>⟨ds.length - (n + 1),by omega,rfl,z⟩,fun xv H2 hy=>?_⟩
   obtain ⟨s2,d,hd,rd⟩:=it.yld n H' xv H2 kp hy
   have hdi : d=ds[n]:=by
    have:=hd hlt
    rw [av hlt] at this
    exact (Option.some.inj this).symm
   subst hdi
   have rd' : Rep X.K H2 (fun a=>B0 a∨∃ r,a∈R' r) ds[n] xv:=rd.anti fun a z=>by
    rcases z with z | ⟨r,z⟩
    ·exact .inl (.inl z)
    ·rcases s'.from' r a z with z | z
     ·exact .inl (.inr z)
     ·exact .inr z
   rw [y6V et] at rd'
   unfold Rep at rd'
   obtain ⟨p,vs,rfl,hsq,rvs⟩:=rd'
   unfold Reps at rvs
   obtain ⟨va,r1,rfl,ra,rvs⟩:=rvs
   unfold Reps at rvs
   obtain ⟨vb,r2,rfl,rb,rvs⟩:=rvs
   unfold Reps at rvs
   subst rvs
   refine ⟨p,[va,vb],rfl,hsq,rfl,va,[vb],rfl,vb,[],rfl,rfl,?_⟩
   have rs2:=((rs'.mono s2).setSh (i:=i) ra).setSh (i:=j) rb
   have st2 : Stp R H1 R' H2:=s'.trans (.same s2)
   refine ⟨_,R',ob,rs2,eb,?_⟩
   cases ob with
   | nx δ2=>
    have q2 : z5G i j g (ds.drop (n + 1)) δ2=some o:=q'
    exact fun σ3 H3 R3 rs3 s3=>⟨hlt,δ2,R3,rs3,st2.trans s3,q2⟩
   | ct δ2=>
    have q2 : z5G i j g (ds.drop (n + 1)) δ2=some o:=q'
    exact fun σ3 H3 R3 rs3 s3=>⟨hlt,δ2,R3,rs3,st2.trans s3,q2⟩
   | bk δ2=>
    cases q'
    exact fun σ3 H3 R3 rs3 s3=>k σ3 H3 R3 rs3 ((Stp.same s1).trans (st2.trans s3))
   | rt d=>
    cases q'
    exact k.back ((Stp.same s1).trans st2)
   | rb d δ2=>
    cases q'
    exact k.back ((Stp.same s1).trans st2)
   | ex c δ2=>
    cases q'
    exact k.back ((Stp.same s1).trans st2)
 ·have en : n=ds.length:=by omega
  subst en
  rw [cb] at q'
  cases q'
  exact .inl ⟨it.stop _ H' kp (ar _),k σ' H' R' rs' ((Stp.same s1).trans s')⟩
theorem pg_pair {i j : Nat} {x y : Str} {px py tp : Pos} {x1} (hc : X.calm=true) (h1 : PG X (.Name x px) (z2Z i)) (h2 : PG X (.Name y py) (z2Z j))
  (hs : (assignEach [.Name x px,.Name y py] X.env).map (·.2)=assign (.Name x px) X.env :: (assignEach [.Name y py] X.env).map (·.2):=by rfl) (hs2 : (assignEach [.Name y py] X.env).map (·.2)=assign (.Name y py) X.env :: (assignEach [] X.env).map (·.2):=by rfl)
  (hn : (assignEach [.Name x px,.Name y py] X.env).length=2:=by rfl) (hst : (assignEach [.Name x px,.Name y py] X.env).findIdx? (·.1)=none:=by rfl) : PG X (.Tuple [.Name x px,.Name y py] x1 tp) (gPair X.K i j):=
 y9V hc (z6x h1 (z6x h2 y6E hs2) hs) hn hst
end
end L2
namespace L2
open PySem PySem.Spec PyProof.Rows
def bst (ns : List Int) : Nat->Nat
 | 0=>0
 | k + 1=>if decide (ns.getD (k + 1) 0 < ns.getD (bst ns k) 0)=true then k + 1 else bst ns k
def mnI (ns : List Int) : Int:=ns.getD (bst ns (ns.length - 1)) 0
theorem y2O {bt : Nat->Nat->Bool} {ns : List Int} (h : ∀ i j,bt i j=decide (ns.getD i 0 < ns.getD j 0)) : ∀ k,argBest bt k=bst ns k
 | 0=>rfl
 | k + 1=>by
  unfold argBest bst
  rw [y2O h k,h]
section
variable {X : Cx}
theorem y6A (hc : X.calm=true) : z6S X (.builtin "min") (fun xs H Q=>∃ (p : Addr) (ns : List Int),xs=[.ref p]∧SqL X.K H p (ns.map V.int)∧ns≠[]∧Q (.int (mnI ns)) H):=by
 intro pins s σ H xs us Q I r h
 obtain ⟨p,ns,rfl,hq,hne,q⟩:=h
 obtain ⟨u,rfl,ru⟩:=y5y r
 cases ru
 obtain ⟨its,rv,pl,hz⟩:=I.list hq
 have hi:=y3r rv
 obtain ⟨xs,hx⟩:=hi.allInts.items
 have hl' : s.heap.IsList p (intItems xs):=hx ▸ pl.isList
 have e1 : ns=xs.toList.map (·.1):=by
  rw [← nums_intItems,← hx]
  exact (show numsOf its.toArray.toList=ns from hi.numsOf).symm
 have hsz : xs.size=ns.length:=by rw [e1]; simp
 have hp : 0 < ns.length:=cr.mpr hne
 refine min_intList (I.ok.hd hc) hl' (by omega) fun v h' tk hv hk=>?_
 have eb : argBest (fun i j=>decide (numAt xs i < numAt xs j)) (xs.size - 1)=bst ns (ns.length - 1):=by
  rw [hsz]
  refine y2O (fun i j=>?_) _
  have en : ∀ k,numAt xs k=ns.getD k 0:=fun k=>by
   rw [e1]
   unfold numAt
   simp [cv]
  rw [en,en]
 rw [eb] at hv
 obtain ⟨t,rfl⟩:=intItems_at hv
 have en : numAt xs (bst ns (ns.length - 1))=mnI ns:=by
  unfold mnI
  rw [e1]
  unfold numAt
  simp [cv]
 exact ⟨.int _,H,I.kept hk,⟨t,by rw [en]⟩,q⟩
def y4O : List D->Option D
 | [.lst ds]=>(z4p ds).bind fun ns=>if ns.isEmpty=true then none else some (.int (mnI ns))
 | _=>none
theorem oa_minL {K : aa} : OpA K (fun xs H Q=>∃ (p : Addr) (ns : List Int),xs=[.ref p]∧SqL K H p (ns.map V.int)∧ns≠[]∧Q (.int (mnI ns)) H) y4O:=by
 intro H B ds d vs Q hB hr q k
 unfold y4O at q
 split at q
 ·rename_i es
  cases e : z4p es with
  | none=>rw [e] at q; cases q
  | some bs=>
   rw [e,am] at q
   split at q
   ·cases q
   ·rename_i hn
    cases q
    obtain ⟨v,rfl,r⟩:=z7p hr
    unfold Rep at r
    obtain ⟨a,xs,rfl,_,h,rs⟩:=r
    rw [z9I e rs] at h
    exact ⟨a,bs,rfl,SqL.of h,fun z=>hn (by rw [z]; rfl),k _ H (.refl H) rfl⟩
 ·cases q
variable {e : Expr} {f : DE} {p pos : Pos}
theorem pd_minL (hc : X.calm=true) (hg : Gl X "min") (hm : X.mg "min" = none) (h : PD X e f) (he : starEach [e] X.env=[(false,eval e X.env)]:=by rfl) : PD X (.Call (.Name "min" p) [e] [] pos) (z0k y4O [f]):=
 z8h (y6A hc) oa_minL hg hm boot_min (z0a h z0e he) (by decide) (by decide) he rfl
end
end L2
namespace L2
open PySem PySem.Spec PyProof.Rows
section
variable {X : Cx} {e lo st : Expr} {te : TE} {tl tk : TO} {pos p2 : Pos}
variable {f g h : DE}
end
end L2
namespace L2
open PySem PySem.Spec PyProof.Rows
def bigL : Nat:=2 ^ 250
def CMulB (i j : Int) : Prop:=i.natAbs < bigL∧j.natAbs < bigL
instance {i j : Int} : Decidable (CMulB i j):=by unfold CMulB; infer_instance
section
variable {X : Cx} {a b : Expr} {pos : Pos} {f g : DE}
end
end L2
namespace L2
open PySem PySem.Spec PyProof.Rows
section
variable {X : Cx} {tg iter a b : Expr} {p pos pos' : Pos}
structure ItF (J : It) (lo : Int) (n : Nat) : Prop where
 go : ∀ i H',i < n->J.go i H'
 stop : ∀ i H',n≤i->J.stop i H'
 yld : ∀ i H' x H2,J.yld i H' x H2->Same H' H2∧x = .int (lo + (i : Int))
variable {H0 : Hp} {B0 : Addr->Prop} {fr : Bool} {RX : XR}
variable {c : Expr}
end
end L2
namespace L2
open PySem PySem.Spec PyProof.Rows
section
variable {X : Cx} {a b : Expr} {pos : Pos} {f g : DE}
end
end L2
namespace HT
open PySem PySem.Spec PyProof.Rows
section
variable {prog : Program} {w : World} {A : Around} {E : Value->Shared->Prop} {s : Shared}
end
end HT
namespace L2
open PySem PySem.Spec PyProof.Rows
section
variable {X : Cx} {e a b : Expr} {lo hi : Option Expr} {p p2 pos : Pos}
variable {f : DE}
end
end L2
namespace PySem
namespace SetTable
def Up (xs : Array Nat) : Prop:=xs.toList.Pairwise (· < ·)
end SetTable
def TI (t : SetTable) : Prop:=t.led=true∧(t.plain=true->SetTable.Up t.place)
end PySem
namespace PySem
section
variable {prog : Program} {w : World} {K : Type} [DecidableEq K] (knd : KeyKind prog w K)
variable {knd} {A : Around} {E : Value->Shared->Prop} {s : Shared}
end
section
variable {prog : Program} {w : World} {A : Around} {R : Result->Shared->Prop} {I : Addr} {fp wr : List Addr} {G : Array GenState->Array GenState->Prop} {n : Nat} {P : Nat->Value->Prop} {St : Nat->Shared->Prop}
open PyProof.Rows in
end
end PySem
namespace PySem
section
variable {prog : Program} {w : World} {A : Around} {E : Value->Shared->Prop} {s : Shared}
open PyProof.Rows in
set_option maxHeartbeats 3200000 in
open PyProof.Rows in
end
end PySem
namespace PySem
section
variable {M : Model} {A : Around} {E : Value->Shared->Prop} {s : Shared}
end
section
variable {prog : Program} {w : World} {A : Around} {E : Value->Shared->Prop} {s : Shared}
end
end PySem
namespace PySem
section
variable {prog : Program} {w : World} {A : Around} {E : Value->Shared->Prop} {s : Shared}
end
end PySem
namespace PySem
section
variable {prog : Program} {w : World} {A : Around} {E : Value->Shared->Prop} {s : Shared}
end
end PySem
namespace PySem
open Sem (wp)
section
variable {K : Type} [DecidableEq K] {prog : Program} {w : World} {knd : KeyKind prog w K} {A : Around} {E : Value->Shared->Prop} {s : Shared}
end
end PySem
namespace L2
open PySem PySem.Spec PyProof.Rows
section
variable {prog : Program} {w : World} {A : Around} {E : Value->Shared->Prop} {s : Shared}
end
section
variable {X : Cx} {e : Expr} {te : TE} {p p' pos pos' : Pos}
variable {f : DE}
end
end L2
namespace L2
open PySem PySem.Spec PyProof.Rows
section
variable {X : Cx} {a b : Expr} {pos : Pos} {f g : DE}
end
end L2
namespace L2
open PySem PySem.Spec PyProof.Rows
section
variable {X : Cx} {e : Expr} {p p2 pos : Pos}
end
end L2
namespace L2
open PySem PySem.Spec PyProof.Rows
section
variable {X : Cx} {e : Expr} {te : TE} {p p' pos pos' : Pos}
variable {f : DE}
end
end L2
namespace L2
open PySem PySem.Spec PyProof.Rows
section
variable {X : Cx} {a b : Expr} {pos : Pos} {f g : DE}
end
end L2
namespace L2
open PySem PySem.Spec PyProof.Rows
section
variable {X : Cx} {c : Expr} {a b : List Stmt} {p2 pos : Pos} {H0 : Hp} {B0 : Addr->Prop} {fr : Bool} {RX : XR} {F : DS->Option XO} {g h : SS->Option Out}
end
end L2
namespace L2
open PySem PySem.Spec PyProof.Rows
section
variable {X : Cx} {x : Str} {C : Addr} {np cpos : Pos} {e₀ : Expr} {te : TE} {f : DE}
end
end L2
namespace L2
open PySem PySem.Spec PyProof.Rows
section
variable {X : Cx} {pos : Pos} {H0 : Hp} {B0 : Addr->Prop} {fr : Bool} {RX : XR} {F : DS->Option XO}
end
end L2
namespace L2
open PySem PySem.Spec PyProof.Rows
def spM2 (K : aa) (F : List D->Option D) : Sp:=fun vs H Q _=>∃ u v r du d0 ds d A,vs=u :: v :: r∧Rep K H (fun a=>a∈A) du u∧Tree K H d0 v A∧A.Nodup∧Reps K H (fun a=>a∈A) ds r∧F (du :: d0 :: ds)=some d ∧
 ∀ v' H' A',Same (y0D H A) H'->Tree K H' d v' A'->A'.Nodup->(∀ a∈A',a∈A∨H a=none)->(∀ a,H' a=none->H a=none)->Q v' H'
def y0V (np nl : Nat) (g : SS->Option Out) : List D->Option D:=fun ds=>match ds with
 | du :: d0 :: ds=>if ds.length + 2=np then (match g (some (.sh du) :: some (.ow d0) :: ds.map (fun d=>some (.sh d)) ++ ae nl none) with
  | some (.rt d)=>some d
  | some (.nx _)=>some .non
  | _=>none) else none
 | _=>none
theorem y3M {K : aa} {H : Hp} {du d0 : D} {u v : V} {A : List Addr} {ds : List D} {vs : List V} {N : List Str} {nl : Nat} (ru : Rep K H (fun a=>a∈A) du u) (t : Tree K H d0 v A) (nd : A.Nodup) (r : Reps K H (fun a=>a∈A) ds vs) (hN : N.length=ds.length + 2 + nl) :
  RS K (y0D H A) noB H (z4I N (u :: v :: vs)) (some (.sh du) :: some (.ow d0) :: ds.map (fun d=>some (.sh d)) ++ ae nl none) (fun r=>if r=1 then A else []):=by
 have hl:=r.length
 have get : ∀ {i : Nat} {x : SD},(some (SD.sh du) :: some (SD.ow d0) :: ds.map (fun d=>some (SD.sh d)) ++ ae nl none)[i]? = some (some x)->(i=0∧x = .sh du)∨(i=1∧x = .ow d0)∨∃ j d,i=j + 2∧ds[j]? = some d∧x = .sh d:=fun {i x} e=>by
  cases i with
  | zero=>simp at e; exact .inl ⟨rfl,e.symm⟩
  | succ i=>
  cases i with
  | zero=>simp at e; exact .inr (.inl ⟨rfl,e.symm⟩)
  | succ j=>
   have e' : (ds.map (fun d=>some (SD.sh d)) ++ ae nl none)[j]? = some (some x):=by simpa using e
   by_cases hi : j < ds.length
   ·rw [aY (by simpa using hi),aN,av hi] at e'
    cases e'
    exact .inr (.inr ⟨j,ds[j],rfl,av hi,rfl⟩)
   ·rw [be (by simpa using hi),bv] at e'
    split at e' <;> cases e'
 have mem : ∀ r a,a∈(if r=1 then A else [])->r=1∧a∈A:=fun r a z=>by
  split at z
  ·exact ⟨by assumption,z⟩
  ·cases z
 refine ⟨y4f,(fun _ z=>z.elim),?_,fun r a z=>y3o (mem r a z).2,fun r a z=>t.held d0 a (mem r a z).2,fun r s a z z'=>by rw [(mem r a z).1,(mem s a z').1],fun i d e=>?_,fun i r d e=>?_,fun i d e=>?_⟩
 ·unfold z4I
  simp
  omega
 ·rcases get e with ⟨rfl,q⟩ | ⟨_,q⟩ | ⟨j,d',rfl,e1,q⟩
  ·cases q
   refine ⟨u,?_,ru.anti fun a z=>?_⟩
   ·unfold z4I
    simp
   ·rcases z with z | ⟨r,z⟩
    ·exact z.elim
    ·exact (mem r a z).2
  ·cases q
  ·cases q
   obtain ⟨u',e3,rv⟩:=r.get e1
   refine ⟨u',?_,rv.anti fun a z=>?_⟩
   ·unfold z4I
    have hi : j < vs.length:=(aU.mp e3).1
    rw [aY (by simp; omega),aN]
    simp [e3]
   ·rcases z with z | ⟨r,z⟩
    ·exact z.elim
    ·exact (mem r a z).2
 ·rcases get e with ⟨_,q⟩ | ⟨_,q⟩ | ⟨j,d',rfl,e1,q⟩ <;> cases q
 ·rcases get e with ⟨_,q⟩ | ⟨rfl,q⟩ | ⟨j,d',rfl,e1,q⟩
  ·cases q
  ·cases q
   refine ⟨v,?_,t,nd⟩
   unfold z4I
   simp
  ·cases q
section
variable {P : Program} {w : World} {K : aa} {mg : Str->Option Value} {base : Heap}
theorem defM2 {x qual : Str} {st : Stmt} {f : Addr} {fd : FuncData} {N ps : List Str} {k np nl : Nat} {g : SS->Option Out} (F : Fun K x qual st f fd) (hm : mg x=some (.ref f)) (hb : Binds K fd ps []) (S : FnScope N ps (z0b st)) (hnp : ps.length=np) (hN : N.length=np + nl)
  (hbody : ∀ (cdv : Value) (A : Around) (outer : List Env) (s : Shared) (H H0 : Hp) (E : XK),Room k (A.deeper (envOfC qual (z0b st) s.heap.objs.size f cdv)) →
   PSs (z8l CX0 P w K mg base N qual (z0b st) f cdv A outer s H E).nox (z0i st) (tS K H0 noB true noX g)) : DefOk P w K mg base (k + 1) x (spM2 K (y0V np nl g)):=by
 refine ⟨f,fd,ps,hm,F.kp,hb,F.ok S (fun vs H Q E h=>?_) fun cdv A outer s H vs Q E hr h=>?_⟩
 ·obtain ⟨u,v,r,du,d0,ds,d,A,rfl,_,_,_,rr,e,_⟩:=h
  unfold y0V at e
  simp only at e
  split at e
  ·rename_i hl
   rw [bb,bb,← rr.length,hnp]
   omega
  ·cases e
 ·obtain ⟨u,v,r,du,d0,ds,d,A',rfl,ru,t,nd,rr,e,kk⟩:=h
  refine ⟨_,hbody cdv A outer s H (y0D H A') E hr,?_⟩
  have hl : ds.length + 2=np:=by
   unfold y0V at e
   simp only at e
   split at e
   ·assumption
   ·cases e
  have e' : (match g (some (.sh du) :: some (.ow d0) :: ds.map (fun d=>some (.sh d)) ++ ae nl none) with | some (.rt d)=>some d | some (.nx _)=>some D.non | _=>none)=some d:=by
   unfold y0V at e
   simp only [if_pos hl] at e
   exact e
  have rs:=y3M (nl:=nl) (N:=N) ru t nd rr (by omega)
  have fr : ∀ a,y0D H A' a=none->a∈A'∨H a=none:=fun a z=>by
   by_cases h : a∈A'
   ·exact .inl h
   ·rw [z6W h] at z; exact .inr z
  split at e'
  ·rename_i d' eg
   cases e'
   exact ⟨_,_,_,rs,eg,fun v H' z th=>by
    obtain ⟨A2,t2,nd2,fr2⟩:=z.2.1 rfl
    exact kk v H' A2 z.1 t2 nd2 (fun a ha=>fr a (fr2 a ha)) th⟩
  ·rename_i δ' eg
   cases e'
   exact ⟨_,_,_,rs,eg,fun σ' H' R' rs' st'=>kk .non H' [] rs'.keep ⟨rfl,rfl⟩ bh (fun a z=>nomatch z) st'.there⟩
  ·cases e'
end
def z6O (F : List D->Option D) (f0 f1 : DE) (fl : List DE) : DE:=fun δ=>(f0 δ).bind fun a=>(f1 δ).bind fun b=>(z0o fl δ).bind fun cs=>F (a :: b :: cs)
section
variable {X : Cx} {k : Nat} {x : Str} {p pos : Pos} {e e' : Expr} {es : List Expr}
theorem z9Q {F : List D->Option D} {f0 f1 : DE} {fl : List DE} (G : DefOk X.prog X.w X.K X.mg X.base k x (spM2 X.K F)) (hr : Room k X.A) (hg : Gl X x) (h0 : PD X e f0) (h1 : PN X e' f1) (ha : PAD X es fl) (hdb : (x == ("__debug__" : Str))=false:=by decide)
  (he : starEach (e :: e' :: es) X.env=(false,eval e X.env) :: starEach (e' :: es) X.env:=by rfl) (he1 : starEach (e' :: es) X.env=(false,eval e' X.env) :: starEach es X.env:=by rfl) (hpl : (backTo pos (starEach (e' :: es) X.env)).any (·.1)=false:=by rfl) : PN X (.Call (.Name x p) (e :: e' :: es) [] pos) (z6O F f0 f1 fl):=
 (z8U G hr hg (z1l h0 (z1l h1 ha he1) he) hdb he hpl).imp fun σ H Q ⟨δ,d,S,q,k⟩=>by
  unfold z6O at q
  cases e0 : f0 δ with
  | none=>rw [e0] at q; cases q
  | some a=>
  cases e1 : f1 δ with
  | none=>rw [e0,e1] at q; cases q
  | some b=>
  cases e2 : z0o fl δ with
  | none=>rw [e0,e1,e2] at q; cases q
  | some cs=>
  rw [e0,e1,e2] at q
  have q : F (a :: b :: cs)=some d:=q
  refine ⟨noB,δ,a,.no,S,e0,fun u H1 s1 r1=>⟨δ,b,S.mono s1,e1,fun v H2 A s2 t2 nd2 f2=>?_⟩⟩
  have S2 : RepS X.K H2 (fun x=>x∈A) σ δ:=((RepS.wide (C:=fun x=>x∈A) (S.mono s1) f2).anti fun x z=>.inr z).mono s2
  refine ⟨fun x=>x∈A,δ,cs,fun x z=>?_,S2,e2,fun vs H3 s3 r3=>?_⟩
  ·obtain ⟨o,qo,_⟩:=t2.held b x z
   exact ⟨o,qo⟩
  show spM2 X.K F ((u :: v :: vs) ++ []) H3 Q E0
  rw [aG]
  have ru : Rep X.K H3 (fun x=>x∈A) a u:=((Rep.wide (C:=fun x=>x∈A) f2 a r1).anti fun x z=>.inr z).mono (s2.trans s3)
  refine ⟨u,v,vs,a,b,cs,d,A,rfl,ru,t2.mono s3,nd2,r3,q,fun v' H' A' s' t' nd' fr' th'=>?_⟩
  refine k v' H' A' (fun x o ex=>?_) t' nd' fun x hx=>?_
  ·refine s' x o ?_
   have ex1:=s1 x o ex
   rw [z6W fun z=>by rw [f2 x z] at ex1; cases ex1]
   exact s3 x o (s2 x o ex1)
  ·rcases fr' x hx with z | z
   ·exact s1.free (f2 x z)
   ·exact s1.free (s2.free (s3.free z))
variable {H0 : Hp} {B0 : Addr->Prop} {RX : XR} {a : Expr} {pos' : Pos}
def ret1 (i : Nat) : SS->Option Out:=fun δ=>(y5x δ i).map fun d=>.rt (.lst [d])
theorem s_ret1 {i : Nat} (ha : PE X a (y3i i)) (hs : starEach [a] X.env=(false,eval a X.env) :: starEach [] X.env:=by rfl) :
  PS X (.Return (some (.List [a] pos')) pos) (tS X.K H0 B0 true RX (ret1 i)):=PS.imp (z7d (y5H (z1l ha pa_nil hs))) fun D σ H ⟨δ,R,o,rs,q,k⟩=>by
 unfold ret1 at q
 cases h1 : y5x δ i with
 | none=>rw [h1] at q; cases q
 | some d=>
  rw [h1] at q
  cases q
  obtain ⟨v,A,e1,t1,n1,m1⟩:=y9p rs h1
  refine ⟨v,e1,by show 1≤sizeLine; rw [sizeLine_eq]; omega,fun p hp=>?_⟩
  have sp:=z0t (o:=.lst [v]) hp
  have hold : ∀ x,x∈A->H x≠none:=fun x hx z=>by
   obtain ⟨o,q,_⟩:=t1.held _ x hx
   rw [z] at q; cases q
  refine k (.ref p) _ ⟨rs.keep.trans sp,fun _=>⟨p :: A,?_,aE.mpr ⟨fun z=>hold p z hp,n1⟩,fun x hx=>?_⟩,fun z=>by cases z⟩ fun x z=>sp.free z
  ·unfold Tree
   refine ⟨p,[v],A,rfl,z0s,?_,rfl⟩
   unfold Trees
   exact ⟨v,[],A,[],rfl,t1.mono sp,⟨rfl,rfl⟩,by simp⟩
  ·rcases aj.mp hx with z | z
   ·rw [z]; exact rs.keep.free hp
   ·exact rs.new i x (m1 x z)
end
end L2
namespace L2
open PySem PySem.Spec PyProof.Rows
section
variable {K : aa} {H0 H : Hp} {B0 : Addr->Prop} {σ : St} {δ : SS} {R : Nat->List Addr}
end
section
variable {X : Cx} {H0 : Hp} {B0 : Addr->Prop} {fr : Bool} {RX : XR} {e : Expr} {pos ap cp : Pos} {x : Str} {px : Pos}
end
section
variable {X : Cx} {pos : Pos}
variable {H0 : Hp} {B0 : Addr->Prop} {fr : Bool} {RX : XR}
@[irreducible] def PSb (X : Cx) (st : Stmt) (t : TS) : Prop:=PS X st t
@[irreducible] def PSsb (X : Cx) (st : List Stmt) (t : TS) : Prop:=PSs X st t
end
section
variable {P : Program} {w : World} {K : aa} {mg : Str->Option Value} {base : Heap}
end
end L2
namespace L2
open PySem PySem.Spec PyProof.Rows
section
variable {X : Cx} {H0 : Hp} {B0 : Addr->Prop} {fr : Bool} {RX : XR} {x : Str} {px p2 ap cp pos : Pos} {ke : Expr} {fk : DE}
end
end L2
namespace L2
open PySem PySem.Spec PyProof.Rows
section
variable {X : Cx} {H0 : Hp} {B0 : Addr->Prop} {fr : Bool} {RX : XR} {e : Expr} {f : DE} {pos ap cp : Pos} {x : Str} {px : Pos}
def y5Y (i : Nat) (f : DE) : SS->Option Out:=fun δ=>(f (z0v δ)).bind fun d=>(match d,δ[i]? with
 | .lst es,some (some (.ow (.lst ds)))=>if z2z es=true∧ds.length + es.length≤sizeLine then some (.nx ((z0G i δ).set i (some (.ow (.lst (ds ++ es)))))) else none
 | _,_=>none)
theorem y5n {i : Nat} (hx : PE X (.Name x px) (y3i i)) (he : PD X e f) (hbase : attributeBase (.Name x px) "extend" X.env (eval (.Name x px) X.env)=eval (.Name x px) X.env:=by rfl)
  (hfew : ((backTo cp (starEach [e] X.env)).all (fun x=>!x.1) && (backToKw cp (keywordEach [] X.env)).all (fun x=>x.1.isSome) && decide ([e].length + ([] : List Keyword).length + (if ([] : List Keyword).isEmpty then 0 else 1) < 30))=true:=by rfl)
  (hline : (ap.endLine == cp.line)=true:=by rfl) (hs : starEach [e] X.env=(false,eval e X.env) :: starEach [] X.env:=by rfl) (hsw : swapsWith (.Call (.Attribute (.Name x px) "extend" ap) [e] [] cp) none pos.line X.env=pure false:=by rfl) :
  PS X (.Expr (.Call (.Attribute (.Name x px) "extend" ap) [e] [] cp) pos) (tS X.K H0 B0 fr RX (y5Y i f)):=
 PS.imp (z7r (y7H PySem.F.plainAttrs_list PySem.F.slot_list_extend PySem.F.type_list_extend z9W hx (z1l he pa_nil hs) hbase hfew hline hs rfl) hsw) fun D σ H ⟨δ,R,o,rs,q,k⟩=>by
  unfold y5Y at q
  cases e1 : f (z0v δ) with
  | none=>rw [e1] at q; cases q
  | some d=>
  rw [e1,am] at q
  split at q
  case h_2=>cases q
  case h_1 es ds ei=>
  split at q
  case isFalse=>cases q
  case isTrue hl=>
  cases q
  obtain ⟨a,xs,A,ev,ha,ts,eR,nd⟩:=rs.top ei
  refine ⟨.ref a,ev,.inl ⟨rfl,xs,SqL.of ha⟩,noB,z0v δ,_,.no,rs.all,e1,fun y H2 s2 r2=>?_⟩
  unfold Rep at r2
  obtain ⟨b,zs,rfl,_,hb,rz⟩:=r2
  refine ⟨a,b,xs,zs,rfl,rfl,s2 _ _ ha,hb,by rw [← ts.length,← rz.length]; exact hl.2,?_⟩
  have tz:=rz.immTree es hl.1
  have P:=rs.put0 s2 ei ev eR nd ((ts.mono s2).append tz) (by rw [aG]; exact (aE.mp nd).2) fun p hp=>.inl (by rw [aG] at hp; exact hp)
  exact k σ _ _ P.1 P.2
end
section
variable {X : Cx} {pos : Pos}
variable {H0 : Hp} {B0 : Addr->Prop} {fr : Bool} {RX : XR}
end
end L2
namespace L2
open PySem PySem.Spec PyProof.Rows
section
variable {X : Cx} {e : Expr} {f : DE} {y z : Str} {p p2 p3 p4 pos : Pos} {x1 : Nat} {L M1 M2 N : List Str}
end
end L2
namespace L2
open PySem PySem.Spec PyProof.Rows
section
variable {X : Cx} {o e : Expr} {apos cpos : Pos}
end
section
variable {X : Cx} {H0 : Hp} {B0 : Addr->Prop} {fr : Bool} {RX : XR} {e ke : Expr} {pos : Pos} {x : Str} {px p2 : Pos}
end
end L2
namespace L2
open PySem PySem.Spec PyProof.Rows
section
variable {X : Cx} {H0 : Hp} {B0 : Addr->Prop} {fr : Bool} {RX : XR} {pos : Pos}
end
end L2
namespace L2
open PySem PySem.Spec PyProof.Rows
section
variable {K : aa} {H : Hp} {B : Addr->Prop} {m : Addr} {xs : List V} {o : Obj}
end
section
variable {X : Cx} {H0 : Hp} {B0 : Addr->Prop} {fr : Bool} {RX : XR} {st : Stmt}
end
end L2
namespace L2
open PySem PySem.Spec PyProof.Rows
section
variable {K : aa} {H : Hp} {B : Addr->Prop} {m : Addr} {xs : List V}
end
section
variable {K : aa} {H0 H H' : Hp} {B0 : Addr->Prop} {σ : St} {δ : SS} {R : Nat->List Addr}
end
section
variable {X : Cx} {H0 : Hp} {B0 : Addr->Prop} {fr : Bool} {RX : XR} {st1 st2 : Stmt} {sts : List Stmt} {f : DE} {z : Int}
end
end L2
namespace L2
open PySem PySem.Spec PyProof.Rows
section
variable {P : Program} {w : World} {K : aa} {mg : Str->Option Value} {base : Heap}
end
section
variable {X : Cx} {e : Expr} {pos ap cp p2 : Pos} {x : Str} {px : Pos} {f : DE} {z : Int} {ke : Expr}
end
end L2
namespace L2
open PySem PySem.Spec PyProof.Rows
section
variable {X : Cx}
variable {e : Expr} {f : DE} {p pos : Pos}
end
end L2
namespace L2
open PySem PySem.Spec PyProof.Rows
section
variable {X : Cx} {H0 : Hp} {B0 : Addr->Prop} {fr : Bool} {RX : XR} {e : Expr} {pos ap cp ap2 cp2 : Pos} {x y : Str} {px py : Pos}
end
end L2
namespace L2
open PySem PySem.Spec PyProof.Rows
section
variable {prog : Program} {w : World} {A : Around} {E : Value->Shared->Prop} {s : Shared} {it t : Addr} {i : Nat} {its : Array Value} {Q : Fin->Shared->Prop} {o ol : Obj} {n : Nat} {x : Value}
end
section
variable {prog : Program} {w : World} {A : Around} {E : Value->Shared->Prop} {s : Shared} {z TI TO i1 i2 : Addr} {a b : Value}
end
section
variable {prog : Program} {w : World} {A : Around} {E : Value->Shared->Prop} {s : Shared} {z TI TO i1 i2 : Addr} {a b : Value}
end
end L2
namespace L2
open PySem PySem.Spec PyProof.Rows
def SIt (h : Heap) (tp : Bool) (it a : Addr) (i : Nat) : Prop:=if tp=true then h.IsTupleIter it a i else h.IsListIter it a i
section
variable {X : Cx} {pins : List (Addr × Obj)} {σ : St} {H : Hp} {s : Shared} {a : Addr} {xs ys : List V} {tp : Bool}
end
structure ZipAt (h : Heap) (tp : Bool) (a b z TI TO i1 i2 : Addr) (i : Nat) : Prop where
 zip : IsZip h z TI TO .none
 its : IsPair h TI (.ref i1) (.ref i2)
 out : ∃ u v,IsPair h TO u v
 one : SIt h tp i1 a i
 two : SIt h false i2 b i
end L2
namespace L2
open PySem PySem.Spec PyProof.Rows
section
variable {ob : Addr->Obj} {L : Addr->Bool} {H : Hp} {a : Addr}
end
section
variable {K : aa} {ob : Addr->Obj} {L : Addr->Bool} {H0 H : Hp} {B B0 : Addr->Prop} {σ : St} {δ : SS} {R : Nat->List Addr}
end
section
variable {K : aa} {ob : Addr->Obj} {L : Addr->Bool} {H : Hp}
end
section
variable {X : Cx} {H0 : Hp} {B0 : Addr->Prop} {fr : Bool} {RX : XR} {st : Stmt}
end
end L2
namespace L2
open PySem PySem.Spec PyProof.Rows
section
variable {X : Cx}
variable {a b : Expr} {f g : DE} {pos : Pos}
end
end L2
namespace PySem
section
variable {prog : Program} {w : World} {A : Around} {E : Value->Shared->Prop} {s : Shared}
set_option maxHeartbeats 3200000 in
open PyProof.Rows in
end
end PySem
namespace L2
open PySem PySem.Spec PyProof.Rows
section
variable {X : Cx} {e : Expr} {te : TE} {p p' pos pos' : Pos}
variable {f : DE}
end
end L2
namespace L2
open PySem PySem.Spec PyProof.Rows
section
variable {X : Cx} {ka va kb vb : Expr} {pos : Pos} {fa fb fc fd : DE}
end
end L2
namespace L2
open PySem PySem.Spec PyProof.Rows
section
variable {X : Cx} {N' : List Str} {sc : Scope} {iter elt : Expr} {ifs : List Expr} {n : Nat} {x x' : Str} {px px' tp pos : Pos} {x1 : Nat} {fi : DS->Option (List D)} {fc : DS->Option Bool} {fe : DE}
end
end L2
namespace L2
open PySem PySem.Spec PyProof.Rows
def y8R (K : aa) (cl : Nat->Value) (m : List D->Option XO) : Sp:=fun vs H Q E=>∃ B ds o,InB B H∧Reps K H B ds vs∧m ds=some o∧(match o with
 | .val d=>∀ v H',Same H H'->Rep K H' B d v->Q v H'
 | .exc c=>∀ H',Same H H'->E (cl c) none H')
section
variable {P : Program} {w : World} {K : aa} {mg : Str->Option Value} {base : Heap}
theorem fnXS {x qual : Str} {st : Stmt} {f : Addr} {fd : FuncData} {N ps : List Str} {k np nl : Nat} {g : SS->Option Out} {cl : Nat->Value} (F : Fun K x qual st f fd) (S : FnScope N ps (z0b st)) (hnp : ps.length=np) (hN : N.length=np + nl)
  (hbody : ∀ (cdv : Value) (A : Around) (outer : List Env) (s : Shared) (H : Hp) (E : XK) (B : Addr->Prop),Room k (A.deeper (envOfC qual (z0b st) s.heap.objs.size f cdv)) →
   PSs (z8l (CXE P w) P w K mg base N qual (z0b st) f cdv A outer s H E) (z0i st) (tS K H B false (y8w cl E) g)) : FnOk P w K mg base (CXE P w) (k + 1) f fd ps (y8R K cl (z7t np nl g)):=by
 obtain ⟨oc,od,kV,doc,pm,an,cdv,ct,osl,rfl,lk,hcd⟩:=F.ex
 refine fn_of lk hcd S (fun vs H Q E h=>?_) fun A outer s H vs Q E hr h=>?_
 ·obtain ⟨B,ds,o,_,r,e,_⟩:=h
  rw [← r.length,z6G e,hnp]
 ·obtain ⟨B,ds,o,hB,r,e,kk⟩:=h
  refine ⟨_,hbody cdv A outer s H E B hr,?_⟩
  have hl:=z6G e
  unfold z7t at e
  rw [if_pos hl] at e
  have rs:=z6z (nl:=nl) hB r (N:=N) (by omega)
  split at e
  ·rename_i d' eg
   cases e
   exact ⟨_,_,_,rs,eg,fun v H' z _=>kk v H' z.1 (z.2.2 rfl)⟩
  ·rename_i δ' eg
   cases e
   exact ⟨_,_,_,rs,eg,fun σ' H' R' rs' _=>kk .non H' rs'.keep rfl⟩
  ·rename_i c δ' eg
   cases e
   exact ⟨_,_,_,rs,eg,fun σ' H' R' rs' _=>kk H' rs'.keep⟩
  ·cases e
end
section
variable {X : Cx} {k : Nat} {sp : Sp} {cl : Nat->Value} {RX : XR} {x : Str} {p pos pos2 : Pos} {e : Expr} {es : List Expr} {t : TA}
def tXS (K : aa) (RX : XR) (F : DS->Option XO) : TE:=fun σ H Q=>∃ B δ o,InB B H∧RepS K H B σ δ∧F δ=some o∧(match o with
 | .val d=>∀ v H',Same H H'->Rep K H' B d v->Q v H'
 | .exc c=>∀ H',Same H H'->RX c σ H')
theorem z8Z {m : List D->Option XO} {fl : List DE} (G : DefX X.prog X.w X.K X.mg X.base k x (y8R X.K cl m)) (hr : Room k X.A) (hg : Gl X x) (hW : XW X cl RX) (ha : PAD X (e :: es) fl) (hdb : (x == ("__debug__" : Str))=false:=by decide)
  (he : starEach (e :: es) X.env=(false,eval e X.env) :: starEach es X.env:=by rfl) (hpl : (backTo pos (starEach es X.env)).any (·.1)=false:=by rfl) : PE X (.Call (.Name x p) (e :: es) [] pos) (tXS X.K RX (z1b m fl)):=
 (y2w G hr hg hW ha hdb he hpl).imp fun σ H Q ⟨B,δ,o,hB,S,q,kk⟩=>by
  unfold z1b at q
  cases e1 : z0o fl δ with
  | none=>rw [e1] at q; cases q
  | some ds=>
   rw [e1,am] at q
   refine ⟨B,δ,ds,hB,S,e1,fun vs H1 s1 r1=>⟨B,ds,o,hB.mono s1,r1,q,?_⟩⟩
   cases o with
   | val d=>exact fun v H' s' r=>kk v H' (s1.trans s') r
   | exc c=>exact fun H' s'=>⟨c,rfl,kk H' (s1.trans s')⟩
theorem z9q {m : List D->Option XO} {fl : List DE} (G : DefX X.prog X.w X.K X.mg X.base k x (y8R X.K cl m)) (hr : Room k X.A) (hg : Gl X x) (ha : PAD X (e :: es) fl) (hdb : (x == ("__debug__" : Str))=false:=by decide)
  (he : starEach (e :: es) X.env=(false,eval e X.env) :: starEach es X.env:=by rfl) (hpl : (backTo pos (starEach es X.env)).any (·.1)=false:=by rfl) : PD X (.Call (.Name x p) (e :: es) [] pos) (z1g m fl):=
 (z8Z (RX:=noX) G hr hg xw_no ha hdb he hpl).imp fun σ H Q ⟨B,δ,d,hB,S,q,kk⟩=>by
  unfold z1g at q
  cases e1 : z1b m fl δ with
  | none=>rw [e1] at q; cases q
  | some o=>
   rw [e1] at q
   cases o with
   | exc c=>cases q
   | val d'=>
    cases q
    exact ⟨B,δ,.val d,hB,S,e1,kk⟩
variable {H0 : Hp} {B0 : Addr->Prop} {fr : Bool} {F : DS->Option XO}
end
end L2
namespace L2
open PySem PySem.Spec PyProof.Rows
section
variable {K : aa} {H : Hp} {B : Addr->Prop} {m : Addr} {c : Int} {ys : List V}
end
section
variable {K : aa} {H0 H H' : Hp} {B0 : Addr->Prop} {σ : St} {δ : SS} {R : Nat->List Addr}
end
section
variable {X : Cx} {H0 : Hp} {B0 : Addr->Prop} {fr : Bool} {RX : XR} {st1 : Stmt} {sts : List Stmt} {f : DE} {x : Str} {px p2 ap cp pos : Pos} {ke e : Expr}
end
end L2
namespace L2
open PySem PySem.Spec PyProof.Rows
section
variable {X : Cx} {a b c e o : Expr} {f g h : DE} {p pos apos cpos p2 : Pos} {tg : Expr}
end
end L2
namespace L2
open PySem PySem.Spec PyProof.Rows
instance {i j : Int} : Decidable (CDivN i j):=by unfold CDivN; infer_instance
section
variable {X : Cx} {a b e : Expr} {f g : DE} {p pos : Pos}
end
end L2
namespace L2
open PySem PySem.Spec PyProof.Rows
structure MethOk (P : Program) (w : World) (K : aa) (mg : Str->Option Value) (base : Heap) (k : Nat) (cn m : Str) (sp : Sp) : Prop where
 ok : ∃ (C f : Addr) (fd : FuncData) (ps : List Str),ag K mainGlobals cn=some (some (.ref C))∧L2.Cls K C∧Meth K C m f∧Binds K fd ps []∧FnOk P w K mg base CX0 k f fd ps sp
section
variable {X : Cx} {e o : Expr} {es : List Expr} {pos apos p px cp : Pos} {f m cn : Str} {k : Nat}
end
section
variable {P : Program} {w : World} {K : aa} {mg : Str->Option Value} {base : Heap}
end
section
variable {X : Cx} {e : Expr} {es : List Expr} {pos apos p px cp : Pos} {fn m cn x : Str} {k i : Nat} {F : List D->Option (D × D)} {fl : List DE}
variable {H0 : Hp} {B0 : Addr->Prop} {fr : Bool} {RX : XR}
end
end L2
namespace L2
open PySem PySem.Spec PyProof.Rows
section
variable {X : Cx} {e value : Expr} {es : List Expr} {pos pos' apos ap p px cp : Pos} {fn m cn x f : Str} {k i : Nat} {fl : List DE} {H0 : Hp} {B0 : Addr->Prop} {fr : Bool} {RX : XR} {g : DE}
def bkKs : List Str:=["thing_count", "entries", "earlier", "next_number"]
def bk4 {α : Type} (a b c d : α) : List (Str × α):=[("thing_count",a),("entries",b),("earlier",c),("next_number",d)]
end
section
variable {P : Program} {w : World} {K : aa} {mg : Str->Option Value} {base : Heap}
def spI (K : aa) : Sp:=fun vs H Q _=>∃ (a C dx : Addr) (m : Int),vs=[.ref a,.int m]∧H a=some (.ins C dx [])∧y3w K C bkKs=true ∧
 ∀ l1 l2 H',H l1=none->H l2=none->l1≠l2->H' a=some (.ins C dx (bk4 (.int m) (.ref l1) (.ref l2) (.int 0)))->H' l1=some (.lst [])->H' l2=some (.lst [])->(∀ b o,b≠a->H b=some o->H' b=some o)->(∀ b,H' b=none->H b=none)->Q .non H'
end
structure NewOk (P : Program) (w : World) (K : aa) (mg : Str->Option Value) (base : Heap) (k : Nat) (cn : Str) : Prop where
 ok : ∃ (C fi : Addr) (fd : FuncData) (ps : List Str),Mk K C fi∧mg cn=some (.ref C)∧ag K mainGlobals cn=some (some (.ref C))∧y3w K C bkKs=true∧Binds K fd ps []∧FnOk P w K mg base CX0 k fi fd ps (spI K)
section
variable {X : Cx} {e value : Expr} {es : List Expr} {pos pos' apos ap p px cp : Pos} {fn m cn x f : Str} {k i : Nat} {fl : List DE} {H0 : Hp} {B0 : Addr->Prop} {fr : Bool} {RX : XR} {g : DE}
end
section
variable {X : Cx} {o e : Expr} {pos ap cp : Pos} {fl : List DE} {f : DE} {H0 : Hp} {B0 : Addr->Prop} {fr : Bool} {RX : XR}
end
end L2
namespace L2
open PySem PySem.Spec PyProof.Rows
section
variable {X : Cx} {H0 : Hp} {B0 : Addr->Prop} {fr : Bool} {RX : XR} {e : Expr} {pos ap cp ap2 cp2 : Pos} {x y : Str} {px py : Pos}
end
end L2
namespace L2
open PySem PySem.Spec PyProof.Rows
structure MethX (P : Program) (w : World) (K : aa) (mg : Str->Option Value) (base : Heap) (k : Nat) (cn m : Str) (sp : Sp) : Prop where
 ok : ∃ (C f : Addr) (fd : FuncData) (ps : List Str),ag K mainGlobals cn=some (some (.ref C))∧L2.Cls K C∧Meth K C m f∧Binds K fd ps []∧FnOk P w K mg base (CXE P w) k f fd ps sp
section
variable {X : Cx} {k : Nat} {sp : Sp} {cl : Nat->Value} {RX : XR} {o e : Expr} {es : List Expr} {pos apos : Pos} {m cn : Str} {ta : TE} {t : TA} {C f : Addr} {fd : FuncData} {ps : List Str}
end
section
variable {X : Cx} {x : Str} {px px2 p1 p2 p3 pos pos' : Pos} {i : Nat} {H0 : Hp} {B0 : Addr->Prop} {fr : Bool} {RX : XR}
end
end L2
namespace L2
open PySem PySem.Spec PyProof.Rows
inductive BO where
 | val (o d : D) | exc (c : Nat) (o : D)
section
variable {P : Program} {w : World} {K : aa} {mg : Str->Option Value} {base : Heap}
end
section
variable {X : Cx} {e : Expr} {es : List Expr} {pos apos p px cp : Pos} {fn m cn x : Str} {k i : Nat} {F : List D->Option BO} {fl : List DE} {cl : Nat->Value} {RX : XR}
end
inductive BR where
 | val (d : D) (δ : SS) | exc (c : Nat) (δ : SS)
section
variable {X : Cx} {e : Expr} {i : Nat} {F : List D->Option BO} {G : List D->Option (D × D)} {fl : List DE} {H0 : Hp} {B0 : Addr->Prop} {fr : Bool} {RX : XR} {pos p2 : Pos} {g h : SS->Option Out} {a b : List Stmt}
end
end L2
namespace L2
open PySem PySem.Spec PyProof.Rows
section
variable {X : Cx} {RX : XR} {a b c : Expr} {pos : Pos} {f g : DE} {F : DS->Option XO}
end
section
variable {X : Cx} {e e2 e3 : Expr} {i : Nat} {F : List D->Option BO} {fl : List DE} {H0 : Hp} {B0 : Addr->Prop} {fr : Bool} {RX : XR} {pos p2 p3 : Pos} {g h : SS->Option Out} {f2 f3 : DE} {a b : List Stmt}
end
end L2
namespace L2
open PySem PySem.Spec PyProof.Rows
structure RoomH (k : Nat) (A : Around) : Prop where
 dp : A.depth + 3 * k + 5 < recursionLimit
 un : A.units + 16 * k + 200 < cLine
structure FnOkH (P : Program) (w : World) (K : aa) (mg : Str->Option Value) (base : Heap) (k : Nat) (f : Addr) (fd : FuncData) (ps : List Str) (sp : Sp) : Prop where
 len : ∀ vs H Q E,sp vs H Q E->vs.length=ps.length
 run : ∀ (A : Around) (outer : List Env) (s : Shared) (H : Hp) (args : Args) (us : List Value) (vs : List V) (Q : VK) (E : XK),RoomH k A->Env0 P w K mg base A outer s H->BindsTo s fd args (ps.zip us)->Vals vs us->sp vs H Q E →
  codeAny (model P w) A (.call (.ref f) args) (CR CX0 outer P w H s Q E) s
structure DefH (P : Program) (w : World) (K : aa) (mg : Str->Option Value) (base : Heap) (k : Nat) (x : Str) (sp : Sp) : Prop where
 ok : ∃ (f : Addr) (fd : FuncData) (ps : List Str),mg x=some (.ref f)∧ao K (.ref f)=true∧Binds K fd ps []∧FnOkH P w K mg base k f fd ps sp
section
variable {P : Program} {w : World} {K : aa} {mg : Str->Option Value} {base : Heap}
end
section
variable {X : Cx} {k : Nat} {x : Str} {e : Expr} {es : List Expr} {p pos : Pos}
end
end L2
namespace L2
open PySem PySem.Spec PyProof.Rows
section
variable {X : Cx} {e e2 : Expr} {pos p2 : Pos} {H0 : Hp} {B0 : Addr->Prop} {fr : Bool} {RX : XR} {a b : List Stmt} {g h : SS->Option Out} {τ υ : SS->Option (Bool × SS)} {i : Nat}
end
end L2
namespace L2
open PySem PySem.Spec PyProof.Rows
section
variable {X : Cx} {e : Expr} {x : Str} {pos ap cp px p2 p3 : Pos} {H0 : Hp} {B0 : Addr->Prop} {fr : Bool} {RX : XR} {i : Nat} {f : DE}
end
abbrev F3:=D->List D->D->Option (D × List D × D)
section
variable {P : Program} {w : World} {K : aa} {mg : Str->Option Value} {base : Heap}
end
section
variable {X : Cx} {e : Expr} {p px py cp : Pos} {fn x y : Str} {k i j : Nat} {F : F3} {f : DE} {H0 : Hp} {B0 : Addr->Prop}
end
end L2
namespace L2
open PySem PySem.Spec PyProof.Rows
def ThrW (h : Heap) (e T : Addr) (cls w : Value) : Prop:=∃ oe vs oT ts,h.get? e=some oe∧oe.cls=cls∧oe.data = .fields vs∧vs[1]? = some (.ref T)∧T≠e∧h.get? T=some oT∧oT.data = .fields ts∧ts[3]? = some w∧oe.dict=none
structure GoneW (S ch : List Addr) (e : Addr) (cls w : Value) (h h' : Heap) : Prop where
 keep : ∀ b o,b ∉ S->b ∉ ch->h.get? b=some o->h'.get? b=some o
 slot : ∀ b o,b∈S->b ∉ ch->h.get? b=some o->∃ sl,h'.get? b=some { o with slots:=sl }
 there : ∀ b o,h.get? b=some o->∃ o',h'.get? b=some o'
 thr : ∃ T,h.objs.size≤T∧ThrW h' e T cls w
section
variable {M : Model} {A : Around} {E : Value->Shared->Prop} {s : Shared}
theorem y5a {base : Heap} {env : Env} {outer : List Env} {L e : Addr} {oe : Obj} {vs : Array Value} {head : Value} {hadNext : Bool} {Q : Unit->Shared->Prop}
  (hfr : A.frames=some (env :: outer)) (hl : s.heap.FunFrames base (env :: outer)) (hf : env.frame=some L)
  (he : s.heap.get? e=some oe) (hd : oe.data = .fields vs) (hsz : 1 < vs.size) (hdn : oe.dict=none)
  (h : ∀ h',GoneW (frs (env :: outer)) [e] e oe.cls (rawInt L) s.heap h'->Q () { s with heap:=h' }) :
  wpAny M A (do let a ← frameOf env; let pl ← entryPlaceOf L hadNext; let b ← EntryCells.newEntry head a .none (rawInt L) .none pl; setField (.ref e) 1 b) Q E s:=by
 have hene : e ∉ frs (env :: outer):=fun hm=>by
  obtain ⟨_,o,ho,hnf⟩:=hl.mem hm
  rw [he] at ho; injection ho with ho; subst ho; exact hnf vs hd
 refine wpAny_bind (wpAny_frameOf_fun hfr hl hf fun h₁ hs₁=>?_)
 refine wpAny_bind (wpAny_entryPlaceOf fun pl hpl=>?_)
 unfold EntryCells.newEntry newFields
 refine wpAny_bind (wpAny_newObj_type ?_ (hpl.sizeOk5 _ _ _ _ _))
 have he₁ : h₁.get? e=some oe:=(hs₁.2.1 e hene).trans he
 generalize hob : ({ cls:=.type "traceback",dict:=none,data:=.fields ([head,.ref L,.none,rawInt L,.none] ++ (if pl.isEmpty then ae 6 Value.none else pl)).toArray } : Obj)=ob
 have hobd : ob.data = .fields ([head,.ref L,.none,rawInt L,.none] ++ (if pl.isEmpty then ae 6 Value.none else pl)).toArray:=by rw [← hob]
 have hobf : ob.isFreed=false:=by rw [← hob]; rfl
 have he₂:=Heap.get?_push_of_some (h:=h₁) ob he₁
 refine wpAny_setField he₂ hd hsz (h _ ?_)
 have hTe : h₁.objs.size≠e:=bP (Heap.lt_size he₁)
 have hd₃:=Obj.data_mapFields hd (·.setIfInBounds 1 (Value.ref h₁.objs.size))
 have he₃:=Heap.get?_update_self (Obj.mapFields (·.setIfInBounds 1 (Value.ref h₁.objs.size))) he₂ (Obj.isFreed_of_fields hd₃)
 have hT₃:=(Heap.get?_update_other (h₁.push ob) (Obj.mapFields (·.setIfInBounds 1 (Value.ref h₁.objs.size))) (Ne.symm hTe)).trans (Heap.get?_push_size h₁ hobf)
 have keep : ∀ b o,b≠e->h₁.get? b=some o->((h₁.push ob).update e (Obj.mapFields (·.setIfInBounds 1 (Value.ref h₁.objs.size)))).get? b=some o:=fun b o hbe hb=>by
  rw [Heap.get?_update_other _ _ (Ne.symm hbe)]
  exact Heap.get?_push_of_some _ hb
 refine ⟨fun b o hb hc e1=>?_,fun b o hb hc e1=>?_,fun b o e1=>?_,h₁.objs.size,?_,?_⟩
 ·exact keep b o (fun z=>hc (by simp [z])) ((hs₁.2.1 b hb).trans e1)
 ·obtain ⟨sl,e2⟩:=hs₁.2.2 b o e1
  exact ⟨sl,keep b _ (fun z=>hc (by simp [z])) e2⟩
 ·by_cases hb : b=e
  ·exact ⟨Obj.mapFields (·.setIfInBounds 1 (Value.ref h₁.objs.size)) oe,by rw [hb]; exact he₃⟩
  ·obtain ⟨sl,e2⟩:=hs₁.2.2 b o e1
   exact ⟨_,keep b _ hb e2⟩
 ·rw [hs₁.1]
  exact ar _
 ·exact ⟨_,_,_,_,he₃,Obj.cls_mapFields _ _,hd₃,by simp [hsz],hTe,hT₃,hobd,by simp,y1P hdn⟩
theorem y3x {base : Heap} {env : Env} {outer : List Env} {L e T : Addr} {cls : Value} {Q : Unit->Shared->Prop}
  (hfr : A.frames=some (env :: outer)) (hl : s.heap.FunFrames base (env :: outer)) (hf : env.frame=some L) (ht : Thr s.heap e T cls)
  (h : ∀ h',GoneW (frs (env :: outer)) [e,T] e cls (rawInt L) s.heap h'->Q () { s with heap:=h' }) : wpAny M A (noteFrame (.ref e) env) Q E s:=by
 obtain ⟨oe,vs,oT,ts,he,rfl,hd,h1,hTe,hT,hdT,h3,hdn⟩:=ht
 unfold noteFrame
 simp only [hf]
 refine wpAny_bind (wpAny_field he hd h1 ?_)
 rw [if_pos (show (Value.ref T != Value.none)=true from by simp)]
 refine wpAny_bind (wpAny_field hT hdT h3 ?_)
 rw [if_neg (show ¬ ((Value.none == rawInt L)=true) from by simp [rawInt])]
 refine wpAny_bind (wpAny_setField hT hdT (aR.mp h3).1 ?_)
 have other : ∀ b,b≠T->(s.heap.update T (Obj.mapFields (·.setIfInBounds 3 Value.none))).get? b=s.heap.get? b:=fun b hb=>Heap.get?_update_other _ _ (Ne.symm hb)
 have noRecord : ∀ b o,s.heap.get? b=some o->(∀ vs,o.data≠.fields vs)->b≠T:=fun b o hb hnf q=>by
  rw [q,hT] at hb; injection hb with hb; subst hb; exact hnf ts hdT
 refine y5a hfr (hl.of_keeps fun b o hb hnf=>⟨o,(other b (noRecord b o hb hnf)).trans hb,rfl⟩) hf ((other e (Ne.symm hTe)).trans he) hd (aR.mp h1).1 hdn fun h' G=>h h' ?_
 refine ⟨fun b o hb hc e1=>G.keep b o hb (fun z=>hc (aj.mpr (.inl (ai.mp z)))) ((other b fun z=>hc (by simp [z])).trans e1),fun b o hb hc e1=>G.slot b o hb (fun z=>hc (aj.mpr (.inl (ai.mp z)))) ((other b fun z=>hc (by simp [z])).trans e1),fun b o e1=>?_,?_⟩
 ·by_cases hb : b=T
  ·have e2 : (s.heap.update T (Obj.mapFields (·.setIfInBounds 3 Value.none))).get? b=some (Obj.mapFields (·.setIfInBounds 3 Value.none) oT):=by
    rw [hb]
    exact Heap.get?_update_self _ hT (Obj.isFreed_of_fields (Obj.data_mapFields hdT _))
   exact G.there b _ e2
  ·exact G.there b o ((other b hb).trans e1)
 ·obtain ⟨T',h1,h2⟩:=G.thr
  exact ⟨T',by rwa [Heap.size_after_update] at h1,h2⟩
theorem y5V {e T : Addr} {cls w : Value} {fo : Option Addr} {Q : Unit->Shared->Prop} (ht : ThrW s.heap e T cls w)
  (h : ∀ h',(∀ b,b≠T->h'.get? b=s.heap.get? b)->(∀ b o,s.heap.get? b=some o->∃ o',h'.get? b=some o')->ThrW h' e T cls (fo.elim Value.none fun f=>rawInt f)->Q () { s with heap:=h' }) : wpAny M A (setFlight (.ref e) fo) Q E s:=by
 obtain ⟨oe,vs,oT,ts,he,hcl,hd,h1,hTe,hT,hdT,h3,hdn⟩:=ht
 unfold setFlight
 refine wpAny_bind (wpAny_field he hd h1 ?_)
 rw [if_pos (show (Value.ref T != Value.none)=true from by simp)]
 have hl3:=(aR.mp h3).1
 have hs:=Heap.get?_update_self (Obj.mapFields (·.setIfInBounds 3 (fo.elim Value.none fun f=>rawInt f))) hT (Obj.isFreed_of_fields (Obj.data_mapFields hdT _))
 have other : ∀ b,b≠T->(s.heap.update T (Obj.mapFields (·.setIfInBounds 3 (fo.elim Value.none fun f=>rawInt f)))).get? b=s.heap.get? b:=fun b hb=>Heap.get?_update_other _ _ (Ne.symm hb)
 refine wpAny_setField hT hdT hl3 (h _ other (fun b o q=>?_) ⟨oe,vs,_,_,(other e (Ne.symm hTe)).trans he,hcl,hd,h1,hTe,hs,Obj.data_mapFields hdT _,?_,hdn⟩)
 ·by_cases hb : b=T
  ·subst hb; exact ⟨_,hs⟩
  ·exact ⟨o,(other b hb).trans q⟩
 ·rw [cN hl3]
theorem leaveW {base : Heap} {env : Env} {outer : List Env} {L e T : Addr} {cls w : Value} {Q : Unit->Shared->Prop}
  (hfr : A.frames=some (env :: outer)) (hl : s.heap.FunFrames base (env :: outer)) (hf : env.frame=some L) (ht : ThrW s.heap e T cls w)
  (h : ∀ h' T',(∀ b o,b ∉ frs (env :: outer)->b ∉ [e,T]->s.heap.get? b=some o->h'.get? b=some o)->(∀ b o,b∈frs (env :: outer)->b ∉ [e,T]->s.heap.get? b=some o->∃ sl,h'.get? b=some { o with slots:=sl })->(∀ b o,s.heap.get? b=some o->∃ o',h'.get? b=some o') →
   (T'=T∨s.heap.objs.size≤T')->Thr h' e T' cls->Q () { s with heap:=h' }) : wpAny M A (leaving env (.ref e)) Q E s:=by
 have ht0:=ht
 obtain ⟨oe,vs,oT,ts,he,rfl,hd,h1,hTe,hT,hdT,h3,hdn⟩:=ht
 refine z6g ?_
 unfold noteFrame
 simp only [hf]
 refine wpAny_bind (wpAny_field he hd h1 ?_)
 rw [if_pos (show (Value.ref T != Value.none)=true from by simp)]
 refine wpAny_bind (wpAny_field hT hdT h3 ?_)
 by_cases hw : (w == rawInt L)=true
 ·rw [if_pos hw]
  refine wpAny_pure (y5V ht0 fun h' k1 k2 t'=>h h' T (fun b o _ hc q=>(k1 b fun z=>hc (by simp [z])).trans q) (fun b o _ hc q=>⟨o.slots,(k1 b fun z=>hc (by simp [z])).trans q⟩) k2 (.inl rfl) t')
 ·rw [if_neg hw]
  refine wpAny_bind (wpAny_setField hT hdT (aR.mp h3).1 ?_)
  have other : ∀ b,b≠T->(s.heap.update T (Obj.mapFields (·.setIfInBounds 3 Value.none))).get? b=s.heap.get? b:=fun b hb=>Heap.get?_update_other _ _ (Ne.symm hb)
  have noRecord : ∀ b o,s.heap.get? b=some o->(∀ vs,o.data≠.fields vs)->b≠T:=fun b o hb hnf q=>by
   rw [q,hT] at hb; injection hb with hb; subst hb; exact hnf ts hdT
  refine z8t hfr (hl.of_keeps fun b o hb hnf=>⟨o,(other b (noRecord b o hb hnf)).trans hb,rfl⟩) hf ((other e (Ne.symm hTe)).trans he) hd (aR.mp h1).1 hdn fun h' G=>?_
  obtain ⟨T',h5,h6⟩:=G.thr
  refine h h' T' (fun b o hb hc e1=>G.keep b o hb (fun z=>hc (aj.mpr (.inl (ai.mp z)))) ((other b fun z=>hc (by simp [z])).trans e1)) (fun b o hb hc e1=>G.slot b o hb (fun z=>hc (aj.mpr (.inl (ai.mp z)))) ((other b fun z=>hc (by simp [z])).trans e1)) (fun b o e1=>?_) (.inr (by rwa [Heap.size_after_update] at h5)) h6
  by_cases hb : b=T
  ·have e2 : (s.heap.update T (Obj.mapFields (·.setIfInBounds 3 Value.none))).get? b=some (Obj.mapFields (·.setIfInBounds 3 Value.none) oT):=by
    rw [hb]
    exact Heap.get?_update_self _ hT (Obj.isFreed_of_fields (Obj.data_mapFields hdT _))
   exact G.there b _ e2
  ·exact G.there b o ((other b hb).trans e1)
end
def XL (X : Cx) (cl : Nat->Value) (RX : XR) : Prop:=∀ (pins : List (Addr × Obj)) (σ : St) (H : Hp) (s : Shared) (ea T : Addr) (c : Nat) (w : Value),Inv X pins σ H s->FpX X pins H ea->FpX X pins H T->ThrW s.heap ea T (cl c) w->RX c σ H->X.xe (.ref ea) s
section
variable {P : Program} {w : World} {K : aa} {mg : Str->Option Value} {base : Heap}
theorem xl_def {N : List Str} {qual : Str} {scope : Scope} {f : Addr} {cd : Value} {A : Around} {outer : List Env} {s : Shared} {H : Hp} {E : XK} {cl : Nat->Value} : XL (z8l (CXE P w) P w K mg base N qual scope f cd A outer s H E) cl (fun c _ H=>E (cl c) none H):=by
 intro pins σ H1 s1 ea T c w' I fe fT th hE
 refine leaveW (base:=base) (outer:=outer) I.ok.frames I.stack rfl th fun h' T' k1 k2 k3 hT' th'=>?_
 have I':=I.gone3 (ch:=[ea,T]) k1 k2 k3 fun b hb=>by
  rcases aj.mp hb with rfl | hb
  ·exact fe
  ·rw [ai.mp hb]; exact fT
 have nn : ∀ b,FpX (z8l (CXE P w) P w K mg base N qual scope f cd A outer s H E) pins H1 b->s.heap.get? b=none:=fun b fb=>by
  rcases fb.2.2.1 with z | z
  ·exact absurd (show b∈([] : List Addr) from z) (by simp)
  ·exact z
 have hT : s.heap.get? T'=none∧H1 T'=none:=by
  rcases hT' with rfl | z
  ·exact ⟨nn _ fT,fT.1⟩
  ·exact ⟨Heap.get?_none_of_le (aJ I.sz z),I.hok.fresh z⟩
 exact ⟨ea,T',cl c,H1,rfl,I'.os,I'.bare,I'.base,I'.hok,nn _ fe,hT.1,fe.1,hT.2,th',hE⟩
end
section
variable {X : Cx} {N' : List Str} {k : Nat} {sc : Scope} {pins : List (Addr × Obj)} {σ : St} {H : Hp} {s : Shared} {fp : List Addr} {cl : Nat->Value} {RXc : Nat->Hp->Prop} {use : Option (Value->Sem Unit)} {Q : Value->Shared->Prop} {acc : Value}
theorem xw_comp (hst : X.stack=X.env :: X.outer) (hfr : ∃ L,X.env.frame=some L) (hL : XL X cl (fun c _ H=>RXc c H)) (I : Inv X pins σ H s) (hf : ∀ b∈fp,y0A X pins H b) :
  XW (z0w X N' sc s H fp pins (notedBy (model X.prog X.w) X.A (compEnvC sc (cellsFrom (s.heap.objs.size + 1) sc.names (z3b X.env.cells sc.names [])) s.heap.objs.size X.env) fun e s'=>compPost (model X.prog X.w) X.A X.xe use Q acc s.heap.objs.size (.error e) s')) cl (fun c _ H=>RXc c H):=by
 intro pins' σ' H' s' ea T c J fe fT th hE
 obtain ⟨L,hL0⟩:=hfr
 show wpAny (model X.prog X.w) X.A (noteFrame (.ref ea) X.env) _ _ s'
 have fr:=I.ok.frames
 have stk : s'.heap.FunFrames X.base X.stack:=J.stack
 rw [hst] at fr stk
 refine y3x fr stk hL0 th fun h1 G=>?_
 have J1:=J.gone3 (ch:=[ea,T]) (h':=h1) (by show ∀ b o,b ∉ frs X.stack->_; rw [hst]; exact G.keep) (by show ∀ b o,b∈frs X.stack->_; rw [hst]; exact G.slot) G.there fun b hb=>by
  rcases aj.mp hb with rfl | hb
  ·exact fe
  ·rw [ai.mp hb]; exact fT
 have J2 : Inv (z0w X N' sc s H fp pins (notedBy (model X.prog X.w) X.A (compEnvC sc (cellsFrom (s.heap.objs.size + 1) sc.names (z3b X.env.cells sc.names [])) s.heap.objs.size X.env) fun e s'=>compPost (model X.prog X.w) X.A X.xe use Q acc s.heap.objs.size (.error e) s')) [] σ' H' { s' with heap:=h1 }:=
  ⟨J1.ok,J1.os,J1.bare,J1.base,J1.loc,J1.cell,J1.free,J1.freeC,fun p hp=>J1.pin p (by rw [aG] at hp; exact br _ hp),J1.hok,J1.len⟩
 have I2:=z5D I hf J2
 obtain ⟨T',hT',th'⟩:=G.thr
 obtain ⟨m,hn,_⟩:=J2.loc
 refine ⟨m,hn,fun h2 hb cenv hcenv=>?_⟩
 have hC : H' s.heap.objs.size=none:=J2.free
 have I3:=z9H I I2 hC hb
 have szJ : s.heap.objs.size < s'.heap.objs.size:=J.lt
 have neC : ea≠s.heap.objs.size:=fe.2.1
 have neT : T'≠s.heap.objs.size:=bP (aI szJ hT')
 have th2 : ThrW h2 ea T' (cl c) (rawInt L):=by
  obtain ⟨oe,vs,oT,ts,a1,a2,a3,a4,a5,a6,a7,a8,a9⟩:=th'
  exact ⟨oe,vs,oT,ts,(hb.2 ea neC).trans a1,a2,a3,a4,a5,(hb.2 T' neT).trans a6,a7,a8,a9⟩
 have fT' : FpX X pins H' T':=I.fpX (Heap.get?_none_of_le (aJ (bV szJ) hT')) (J.hok.fresh hT')
 have fe' : FpX X pins H' ea:=by
  rcases fe.2.2.1 with z | z
  ·obtain ⟨_,b2,_,b4,b5,b6⟩:=hf ea z
   exact ⟨fe.1,b2,b4.imp id fun q=>Heap.get?_none_of_le q,b5,b6⟩
  ·exact I.fpX z fe.1
 unfold PySem.passOn
 obtain ⟨oe,vs,oT,ts,a1,a2,a3,a4,a5,a6,a7,a8,a9⟩:=th2
 refine wpAny_bind (wpAny_field a1 a3 a4 ?_)
 rw [if_neg (show ¬ ((Value.ref T' == Value.none)=true) from by simp)]
 refine wpAny_bind (y5V (s:={ s' with heap:=h2 }) ⟨oe,vs,oT,ts,a1,a2,a3,a4,a5,a6,a7,a8,a9⟩ fun h3 k1 k2 t3=>wpAny_throw ?_)
 have I4:=I3.gone3 (ch:=[T']) (h':=h3) (fun b o _ hc q=>(k1 b fun z=>hc (by simp [z])).trans q) (fun b o _ hc q=>⟨o.slots,(k1 b fun z=>hc (by simp [z])).trans q⟩) k2 fun b hb=>by rw [ai.mp hb]; exact fT'
 exact hL pins σ H' _ ea T' c _ I4 fe' fT' t3 hE
end
end L2
namespace L2
open PySem PySem.Spec PyProof.Rows
def x0P (g h : SS->Option Out) : SS->Option Out:=fun δ=>match g δ with
 | some o=>some o
 | none=>h δ
def exc1 (fi : DS->Option (List D)) (F : DS->Option XO) : SS->Option Out:=fun δ=>(fi (z0v δ)).bind fun xs=>match xs with
 | x :: _=>(F (z0v δ ++ [some x])).bind fun o=>match o with
  | .exc c=>some (.ex c δ)
  | _=>none
 | []=>none
def excO (F : DS->Option XO) : SS->Option Out:=fun δ=>(F (z0v δ)).bind fun o=>match o with
 | .exc c=>some (.ex c δ)
 | _=>none
section
variable {X : Cx} {st : Stmt} {g h : SS->Option Out} {H0 : Hp} {B0 : Addr->Prop} {fr : Bool} {RX : XR}
theorem s_or (h1 : PS X st (tS X.K H0 B0 fr RX g)) (h2 : PS X st (tS X.K H0 B0 fr RX h)) : PS X st (tS X.K H0 B0 fr RX (x0P g h)):=fun pins s σ H D I ⟨δ,R,o,rs,q,k⟩=>by
 unfold x0P at q
 cases e : g δ with
 | some o'=>
  rw [e] at q
  cases q
  exact h1 pins s σ H D I ⟨δ,R,o,rs,e,k⟩
 | none=>
  rw [e] at q
  exact h2 pins s σ H D I ⟨δ,R,o,rs,q,k⟩
end
section
variable {X : Cx} {N' : List Str} {k n : Nat} {sc : Scope} {tg iter elt e : Expr} {ifs : List Expr} {pos p cp rpos px : Pos} {x : Str} {gt : TG} {tc : TT} {te : TE} {wi : TI} {cl : Nat->Value} {RXc : Nat->Hp->Prop} {fi : DS->Option (List D)} {F : DS->Option XO} {H0 : Hp} {B0 : Addr->Prop} {fr : Bool} {RX : XR}
theorem y8d {i : Nat} {y : Str} {py spos : Pos} (hst : X.stack=X.env :: X.outer) (hfr : ∃ L,X.env.frame=some L) (hL : XL X cl (fun c _ H=>RXc c H)) (hc : X.calm=true) (S : CompScope X.N X.env.scope.names N' k sc) (hN : X.N.Nodup) (hy : X.N[i]? = some y) (hyl : X.env.scope.names.lookup y=some .local) (hi : PI X tg iter wi)
  (hg : ∀ s H fp pins E,PG (z0w X N' sc s H fp pins E) tg gt) (ht : ∀ s H fp pins E,y3Q (z0w X N' sc s H fp pins E) ifs tc) (he : ∀ s H fp pins E,XW (z0w X N' sc s H fp pins E) cl (fun c _ H=>RXc c H)->PE (z0w X N' sc s H fp pins E) elt te)
  (hsw : swapsWith (.ListComp elt [⟨tg,iter,ifs,0⟩] sc pos) (some (.Name y py)) spos.line X.env=pure true:=by rfl) (hs : ∀ x,foldedSetIterable iter X.env x=pure x:=by intro _; rfl) :
  PS X (.Assign [.Name y py] (.ListComp elt [⟨tg,iter,ifs,0⟩] sc pos) spos) (tAsg (y3H wi gt tc te k) (z2Z i)):=by
 intro pins s σ H D I h
 rw [exec_Assign_Name_used _ _ _ _ hsw]
 refine wpAny_bind (wpAny_standAt (wpAny_bind ?_))
 show wpAny _ X.A (do let _ ← comprehension (.ListComp elt [⟨tg,iter,ifs,0⟩] sc pos) sc X.env _ (newList []) false (eval iter X.env) (some (assign (.Name y py) X.env))) _ _ s
 refine wpAny_bind (wpAny_mono (wpAny_comprehension_free (use:=some (assign (.Name y py) X.env)) (Q:=fun _ s'=>SP X pins D .next s') rfl hs (z1F fun n hn=>I.ok.has n (S.fr hn)) S.kind S.names'
  (thn (hi pins s σ H _ I h) fun v s1 h1=>thn h1 fun itv s2 h2=>?_)) (fun _ s' hq=>wpAny_pure (wpAny_pure hq)) fun _ _ e=>e)
 obtain ⟨it,fp,tn,J,H2,e,I2,T,st2,f2,hW⟩:=h2
 subst e
 refine z5Y (PC:=fun s H E=>XW (z0w X N' sc s H fp pins E) cl (fun c _ H=>RXc c H)) (Q:=fun v H'=>D.nx (σ.set i (some v)) H') (RR:=fun acc C=>compPost (model X.prog X.w) X.A X.xe (some (assign (.Name y py) X.env)) (fun _ s'=>SP X pins D .next s') acc C) hc S (fun s H E hw=>⟨hg s H _ _ E,ht s H _ _ E,he s H _ _ E hw⟩)
  (fun D s3 H3 I3 hf3=>xw_comp hst hfr hL I3 hf3) I2 T st2 f2 hW ?_
 intro a s3 H3 σ' H' s' E' I3 f3 J' q
 have J2:=z5D I3 f3 J'
 obtain ⟨m,hn,_⟩:=J'.loc
 show wpAny _ X.A (assign (.Name y py) X.env (.ref a)) _ _ _
 refine wpAny_assign_Name (z7k J2 hN hy (.inl hyl) (v:=.ref a) rfl (fun s4 I4 hsb=>?_) (.inr hyl))
 obtain ⟨b,hb,hb'⟩:=hsb
 have hne : b≠s3.heap.objs.size:=by
  rcases hb' with z | z
  ·rw [z]; exact aF I3.lt
  ·obtain ⟨v,w'⟩:=I3.cell y b z
   exact aF w'.lt
 refine ⟨m,hn.sameBut hb (Ne.symm hne),fun h' hb2=>⟨_,H',?_,q⟩⟩
 refine I4.turned (t':=s4.toks) (it:=s3.heap.objs.size) (fun b o hne e=>(hb2.2 b hne).trans e) J'.free (bP I3.lt) (.inr I3.sz) (fun x c e=>?_) fun p hp=>?_
 ·obtain ⟨v,q⟩:=I3.cell x c e
  exact aF q.lt
 ·exact aF (Heap.lt_size (I3.pin p hp).1)
theorem s_asgCE {i : Nat} {y : Str} {py spos : Pos} (hst : X.stack=X.env :: X.outer) (hfr : ∃ L,X.env.frame=some L) (hL : XL X cl (fun c _ H=>RXc c H)) (hN : X.N.Nodup) (hy : X.N[i]? = some y) (hyl : X.env.scope.names.lookup y=some .local) (hc : X.calm=true) (S : CompScope X.N X.env.scope.names N' 1 sc) (hn : n=X.N.length) (hi : PID X (.Name x px) iter fi)
  (hg : ∀ s H fp pins E,PG (z0w X N' sc s H fp pins E) (.Name x px) (z2Z n)) (ht : ∀ s H fp pins E,y3Q (z0w X N' sc s H fp pins E) ifs (tT X.K z5p)) (he : ∀ s H fp pins E,XW (z0w X N' sc s H fp pins E) cl (fun c _ H=>RXc c H)->PE (z0w X N' sc s H fp pins E) elt (tXS X.K (fun c _ H=>RXc c H) F))
  (hsw : swapsWith (.ListComp elt [⟨.Name x px,iter,ifs,0⟩] sc pos) (some (.Name y py)) spos.line X.env=pure true:=by rfl) (hs : ∀ x,foldedSetIterable iter X.env x=pure x:=by intro _; rfl) :
  PS X (.Assign [.Name y py] (.ListComp elt [⟨.Name x px,iter,ifs,0⟩] sc pos) spos) (tS X.K H0 B0 fr (fun c _ H=>RXc c H) (exc1 fi F)):=by
 intro pins s σ H D I ⟨δ,R,o,rs,q,kk⟩
 refine y8d hst hfr hL hc S hN hy hyl hi hg ht he hsw hs pins s σ H D I ?_
 have hσ : σ.length=n:=by rw [hn,I.len]
 unfold exc1 at q
 cases e1 : fi (z0v δ) with
 | none=>rw [e1] at q; cases q
 | some xs=>
 rw [e1,am] at q
 cases xs with
 | nil=>cases q
 | cons d0 r=>
 have q : ((F (z0v δ ++ [some d0])).bind fun o=>match o with | .exc c=>some (Out.ex c δ) | _=>none)=some o:=q
 cases e2 : F (z0v δ ++ [some d0]) with
 | none=>rw [e2] at q; cases q
 | some xo=>
 rw [e2,am] at q
 cases xo with
 | val d=>cases q
 | exc c=>
 cases q
 refine ⟨noB,z0v δ,d0 :: r,.no,rs.all,e1,fun J H1 s1 itw=>fun Da hD=>?_⟩
 have it:=itw (fun a=>H1 a=none) fun a ha=>ha
 refine ⟨fun i m σ' H'=>i=0∧(∃ w,σ'=σ ++ [w])∧Same H1 H',⟨0,rfl,⟨none,rfl⟩,z0t hD⟩,?_⟩
 rintro i m σ' H' ⟨rfl,⟨w,rfl⟩,sm⟩
 have kp : Keep X.K (fun a=>noB a∨H1 a=none) H1 H':=.same sm
 refine .inr ⟨it.go 0 H' kp (ef _),fun _ _=>False,fun _ _ z=>z.elim,fun xv H2 hy=>?_⟩
 obtain ⟨s2,d,hd,rd⟩:=it.yld 0 H' xv H2 kp hy
 have hd0 : some d0=some d:=hd (ef _)
 cases hd0
 show tT X.K z5p ((σ ++ [w]).set n (some xv)) H2 _
 rw [← hσ,z6u]
 have S2 : RepS X.K H2 noB (σ ++ [some xv]) (z0v δ ++ [some d0]):=(((rs.all.mono s1).mono sm).mono s2).snoc (rd.anti fun a z=>z.elim)
 refine ⟨noB,z0v δ ++ [some d0],true,.no,S2,rfl,fun H3 s3=>iteT ?_⟩
 have st:=((s1.trans sm).trans s2).trans s3
 exact ⟨noB,z0v δ ++ [some d0],.exc c,.no,S2.mono s3,e2,fun H4 s4=>kk σ H4 R (rs.mono (st.trans s4)) (.same (st.trans s4))⟩
def tEx (K : aa) (RX : XR) (F : DS->Option XO) : TE:=fun σ H _=>∃ δ c,RepS K H noB σ δ∧F δ=some (.exc c)∧∀ H',Same H H'->RX c σ H'
theorem y9d (S : CompScope X.N X.env.scope.names N' k sc) (h : PE X iter (tEx X.K RX F)) (hs : ∀ x,foldedSetIterable iter X.env x=pure x:=by intro _; rfl) : PE X (.ListComp elt [⟨tg,iter,ifs,0⟩] sc pos) (tEx X.K RX F):=by
 intro pins s σ H Q I hq
 rw [eval_ListComp]
 exact wpAny_comprehension_free (use:=none) rfl hs (z1F fun n hn=>I.ok.has n (S.fr hn)) S.kind S.names' (thn (h pins s σ H (fun _ _=>False) I hq) fun v s1 ⟨_,_,_,_,z⟩=>z.elim)
theorem y8D (hg : Gl X "enumerate") (hm : X.mg "enumerate" = none) (h : PE X e (tXS X.K RX F)) (he : starEach [e] X.env=(false,eval e X.env) :: starEach [] X.env:=by rfl) : PE X (.Call (.Name "enumerate" p) [e] [] cp) (tEx X.K RX F):=
 (z9w (r:=fun _ _ _=>False) (T := "enumerate") (fun _ _ _ _ _ _ _ _ _ z=>z.elim) hg hm rfl (z1l h pa_nil he) (by decide) (by decide) he rfl).imp fun σ H Q ⟨δ,c,S,q,k⟩=>⟨noB,δ,.exc c,.no,S,q,k⟩
theorem s_retCE (h : PE X e (tEx X.K RX F)) : PS X (.Return (some e) rpos) (tS X.K H0 B0 fr RX (excO F)):=PS.imp (z7d h) fun D σ H ⟨δ,R,o,rs,q,k⟩=>by
 unfold excO at q
 cases e1 : F (z0v δ) with
 | none=>rw [e1] at q; cases q
 | some xo=>
 rw [e1,am] at q
 cases xo with
 | val d=>cases q
 | exc c=>
  cases q
  exact ⟨z0v δ,c,rs.all,e1,fun H' s'=>k σ H' R (rs.mono s') (.same s')⟩
end
end L2
namespace L2
open PySem PySem.Spec PyProof.Rows
section
variable {X : Cx} {a b c e o : Expr} {f g h : DE} {p pos apos cpos p2 : Pos} {tg : Expr}
end
end L2
namespace L2
open PySem PySem.Spec PyProof.Rows
section
variable {X : Cx} {a b c e o : Expr} {f g h : DE} {p pos : Pos} {x : Str} {tbl : List (Str × List Str)}
end
end L2
namespace L2
open PySem PySem.Spec PyProof.Rows
section
variable {X : Cx} {pos : Pos}
end
end L2
namespace L2
open PySem PySem.Spec PyProof.Rows
section
variable {X : Cx} {N' : List Str} {k n : Nat} {sc : Scope} {tg iter elt e : Expr} {ifs : List Expr} {pos p cp rpos px ap : Pos} {x y : Str} {gt : TG} {tc : TT} {te : TE} {wi : TI} {cl : Nat->Value} {RXc : Nat->Hp->Prop} {fi : DS->Option (List D)} {F : DS->Option XO} {H0 : Hp} {B0 : Addr->Prop} {fr : Bool} {RX : XR}
end
end L2
namespace L2
open PySem PySem.Spec PyProof.Rows
section
variable {X : Cx} {pos : Pos}
end
section
variable {X : Cx} {H0 : Hp} {B0 : Addr->Prop} {fr : Bool} {RX : XR}
theorem sb {st : Stmt} {g : SS->Option Out} (h : PS X st (tS X.K H0 B0 fr RX g)) : PSb X st (tS X.K H0 B0 fr RX g):=by
 unfold PSb
 exact h
end
end L2
namespace L2
open PySem
theorem y4Z {np nl : Nat} {g : SS->Option Out} {ds : List D} {d : D} (hl : ds.length=np) (e : g (ds.map (fun d=>some (.sh d)) ++ ae nl none)=some (.rt d)) : z3e np nl g ds=some d:=by
 unfold z3e
 rw [if_pos hl,e]
theorem z3u {n : Nat} (h : n≤1000000) : n≤sizeLine:=by rw [PySem.sizeLine_eq]; omega
def bD (b : Bool) : D:=.bl b
def z4L (r : List Bool) : D:=.lst (r.map bD)
def z0r (T : List (List Bool)) : D:=.lst (T.map z4L)
theorem y6M {ds : List D} {k : Nat} {d : D} (h : ds[k]? = some d) : ixD (.lst ds) (.int (k : Int))=some d:=z1q h
theorem z9R : ∀ bs : List Bool,z8m (bs.map bD)=some bs
 | []=>rfl
 | b :: bs=>by
  show (z8m (bs.map bD)).map (b :: ·)=_
  rw [z9R bs]
  rfl
theorem z3Q : ∀ r : List Bool,z2z (r.map bD)=true
 | []=>rfl
 | b :: r=>by
  show (true && z2z (r.map bD))=true
  rw [z3Q r]
  rfl
theorem z7T : ∀ r : List Bool,PyData.canLayAll0 (z5N (r.map bD))=true
 | []=>rfl
 | b :: r=>by
  show (true && PyData.canLayAll0 (z5N (r.map bD)))=true
  rw [z7T r]
  rfl
theorem z7U : ∀ T : List (List Bool),PyData.canLayAll0 (z5N (T.map z4L))=true
 | []=>rfl
 | r :: T=>by
  show (PyData.canLayAll0 (z5N (r.map bD)) && PyData.canLayAll0 (z5N (T.map z4L)))=true
  rw [z7T r,z7U T]
  rfl
end L2
namespace L2
open PySem
theorem y0B : ∀ r : List Bool,PyData.depthAll (z5N (r.map bD))=0
 | []=>rfl
 | b :: r=>by
  show max 0 (PyData.depthAll (z5N (r.map bD)))=0
  rw [y0B r]
  rfl
theorem y0g : ∀ T : List (List Bool),PyData.depthAll (z5N (T.map z4L))≤1
 | []=>by decide
 | r :: T=>by
  show max (PyData.depthAll (z5N (r.map bD)) + 1) (PyData.depthAll (z5N (T.map z4L)))≤1
  have:=y0g T
  rw [y0B r]
  omega
theorem okP_tab (T : List (List Bool)) : okP (z0r T)=true:=by
 unfold okP z0r
 rw [aK,decide_eq_true_eq]
 refine ⟨z7U T,?_⟩
 show PyData.depthAll (z5N (T.map z4L)) + 1≤60
 have:=y0g T
 omega
theorem eq_self {d : D} (h : okP d=true) : eqD d d=some (.bl true):=by
 unfold eqD
 rw [h]
 show (if (true && true)=true then some (D.bl (PyData.eqv (toP d) (toP d))) else none)=_
 rw [if_pos (show (true && true)=true from rfl),SeqAt.eqv_refl _ (z0x h).1]
theorem row_ix {r : List Bool} {k : Nat} (h : k < r.length) : ixD (z4L r) (.int (k : Int))=some (.bl r[k]):=y6M (by rw [aN,av h]; rfl)
theorem tab_ix {T : List (List Bool)} {k : Nat} (h : k < T.length) : ixD (z0r T) (.int (k : Int))=some (z4L T[k]):=y6M (by rw [aN,av h]; rfl)
theorem y1o {n k : Nat} (h : k < n) : ixN n (k : Int)=some k:=by
 unfold ixN
 rw [if_pos (by omega),if_pos (by omega)]
 simp
def Sq (n : Nat) (T : List (List Bool)) : Prop:=T.length=n∧∀ r∈T,r.length=n
theorem Sq.row {n : Nat} {T : List (List Bool)} (h : Sq n T) {k : Nat} (hk : k < T.length) : T[k].length=n:=h.2 _ (b9 hk)
theorem Sq.set {n : Nat} {T : List (List Bool)} (h : Sq n T) {a b : Nat} {v : Bool} (ha : a < T.length) : Sq n (T.set a (T[a].set b v)):=by
 refine ⟨by simp [h.1],fun r hr=>?_⟩
 rcases dQ hr with z | z
 ·exact h.2 r z
 ·subst z
  rw [dG]
  exact h.row ha
theorem y3q {δ : DS} {f : DE} {r : List Bool} (e : f δ=some (z4L r)) : z0C (z1V z6n [f]) δ=some (z4L r):=by
 unfold z0C z1V z0o z0o
 rw [e]
 show (if z2z (r.map bD)=true then some (D.lst (r.map bD)) else none)=_
 rw [if_pos (z3Q r)]
 rfl
end L2
namespace L2
open PySem
def hol {α : Type} (x : Option α) (Q : α->Prop) : Prop:=∃ a,x=some a∧Q a
section
variable {α β : Type} {Q : α->Prop} {R : β->Prop}
theorem z0d {a : α} : hol (some a) Q=Q a:=propext ⟨fun ⟨_,e,q⟩=>by cases e; exact q,fun q=>⟨a,rfl,q⟩⟩
theorem hol_is {x : Option α} {a : α} : hol x (fun b=>b=a)↔x=some a:=⟨fun ⟨_,e,q⟩=>q ▸ e,fun e=>⟨a,e,rfl⟩⟩
end
def asB : D->Option Bool
 | .bl b=>some b
 | _=>none
section
variable {Q : D->Prop} {QB : Bool->Prop} {QL : List D->Prop} {QO : Out->Prop} {δ : DS} {s : SS} {f g h : DE} {F : D->D->Option D}
theorem ho_var0 {x : Option D} {r : DS} : z0c 0 (x :: r)=x:=by cases x <;> rfl
def owA (i : Nat) (s : SS) : Option D:=match s[i]? with
 | some (some (.ow d))=>some d
 | _=>none
theorem z0H {np nl : Nat} {b : SS->Option Out} {ds : List D} {d : D} (hl : ds.length=np) (h : hol (b (ds.map (fun d=>some (.sh d)) ++ ae nl none)) fun o=>o = .rt d) : z3e np nl b ds=some d:=y4Z hl (hol_is.mp h)
theorem z7h {np nl : Nat} {b : SS->Option Out} {ds : List D} (hl : ds.length=np) (h : hol (b (ds.map (fun d=>some (.sh d)) ++ ae nl none)) fun o=>∃ d,o = .rt d∧Q d) : hol (z3e np nl b ds) Q:=by
 obtain ⟨o,e,d,rfl,q⟩:=h
 exact ⟨d,y4Z hl e,q⟩
theorem y4U {i : Nat} {b : SS->Option Out} {ds : List D} {s : SS} (I : Nat->SS->Prop) (h0 : I 0 s) (hs : ∀ n (h : n < ds.length) δ,I n δ->hol (b (δ.set i (some (.sh ds[n])))) fun o=>match o with | .nx δ'=>I (n + 1) δ' | .ct δ'=>I (n + 1) δ' | .bk δ'=>QO (.nx δ') | .rt d=>QO (.rt d) | .rb d δ'=>QO (.rb d δ') | .ex c δ'=>QO (.ex c δ')) (he : ∀ δ,I ds.length δ->QO (.nx δ)) : hol (z9i i b ds s) QO:=by
 induction ds generalizing s I with
 | nil=>exact ⟨_,rfl,he _ h0⟩
 | cons x r ih=>
  obtain ⟨o,e,q⟩:=hs 0 (by simp) s h0
  have e : b (s.set i (some (.sh x)))=some o:=e
  have step : ∀ s1,I 1 s1->hol (z9i i b r s1) QO:=fun s1 h1=>ih (fun n=>I (n + 1)) h1 (fun n hn δ hI=>by
   have:=hs (n + 1) (by simpa using hn) δ hI
   simpa using this) fun δ hI=>he δ (by simpa using hI)
  unfold z9i
  rw [e]
  cases o with
  | nx s1=>exact step s1 q
  | ct s1=>exact step s1 q
  | bk s1=>exact ⟨_,rfl,q⟩
  | rt d=>exact ⟨_,rfl,q⟩
  | rb d s1=>exact ⟨_,rfl,q⟩
  | ex c s1=>exact ⟨_,rfl,q⟩
theorem z4Q {i : Nat} {b : SS->Option Out} {lo : Int} {m : Nat} {s : SS} (I : Nat->SS->Prop) (h0 : I 0 s) (hs : ∀ n,n < m->∀ δ,I n δ->hol (b (δ.set i (some (.sh (.int (lo + (n : Int))))))) fun o=>match o with | .nx δ'=>I (n + 1) δ' | .ct δ'=>I (n + 1) δ' | .bk δ'=>QO (.nx δ') | .rt d=>QO (.rt d) | .rb d δ'=>QO (.rb d δ') | .ex c δ'=>QO (.ex c δ')) (he : ∀ δ,I m δ->QO (.nx δ)) : hol (z9i i b (z7n lo m) s) QO:=by
 refine y4U I h0 (fun n hn δ hI=>?_) fun δ hI=>he δ (by simpa [z7n] using hI)
 have hn' : n < m:=by simpa [z7n] using hn
 have:=hs n hn' δ hI
 simpa [z7n] using this
theorem z1r {α : Type} {enc : α->D} {i : Nat} {b : SS->Option Out} {xs : List α} {s : SS} (I : List α->SS->Prop) (h0 : I [] s) (hs : ∀ pre x post,xs=pre ++ x :: post->∀ δ,I pre δ->hol (b (δ.set i (some (.sh (enc x))))) fun o=>match o with | .nx δ'=>I (pre ++ [x]) δ' | .ct δ'=>I (pre ++ [x]) δ' | .bk δ'=>QO (.nx δ') | .rt d=>QO (.rt d) | .rb d δ'=>QO (.rb d δ') | .ex c δ'=>QO (.ex c δ')) (he : ∀ δ,I xs δ->QO (.nx δ)) : hol (z9i i b (xs.map enc) s) QO:=by
 refine y4U (fun n δ=>I (xs.take n) δ) (by simpa using h0) (fun n hn δ hI=>?_) fun δ hI=>he δ (by simpa using hI)
 have hn' : n < xs.length:=by simpa using hn
 have e : xs=xs.take n ++ xs[n] :: xs.drop (n + 1):=by
  rw [← bn hn',el]
 have:=hs (xs.take n) xs[n] _ e δ hI
 rw [← List.take_succ_eq_append_getElem hn'] at this
 rw [ca]
 exact this
end
end L2
namespace L2
open PySem
def o2 (F : D->D->Option D) : Option D->Option D->Option D
 | some x,some y=>F x y
 | _,_=>none
def andO : Option D->Option D->Option D
 | some (.bl true),y=>y
 | some (.bl false),_=>some (.bl false)
 | _,_=>none
def andT : Option Bool->Option Bool->Option Bool
 | some true,y=>y
 | some false,_=>some false
 | _,_=>none
def orT : Option Bool->Option Bool->Option Bool
 | some true,_=>some true
 | some false,y=>y
 | _,_=>none
def iteO {α : Type} : Option Bool->Option α->Option α->Option α
 | some true,x,_=>x
 | some false,_,y=>y
 | _,_,_=>none
def consA : Option D->Option (List D)->Option (List D)
 | some x,some xs=>some (x :: xs)
 | _,_=>none
def y7N : Option D->Option D
 | some d=>if d.imm=true then some d else none
 | none=>none
def z5H : Option (List D)->Option (List D)
 | some ds=>if z2z ds=true then some ds else none
 | none=>none
def z9u (x : Option Out) (b : SS->Option Out) : Option Out:=match x with
 | some (.nx s)=>b s
 | o=>o
def rng1 : Option D->Option (List D)
 | some (.int j)=>if -(2 ^ 62)≤j∧j < 2 ^ 62 then some (z7n 0 j.toNat) else none
 | _=>none
def rng2 : Option D->Option D->Option (List D)
 | some (.int i),some (.int j)=>if -(2 ^ 62)≤i∧i < 2 ^ 62∧-(2 ^ 62)≤j∧j < 2 ^ 62 then some (z7n i (j - i).toNat) else none
 | _,_=>none
def y7K (x : Option D) (lo hi : Option (Option Int)) : Option (List D):=match x,lo,hi with
 | some (.lst ds),some l,some h=>some (z8O ds l h)
 | some (.scr ns),some l,some h=>some (z8O (ns.map .int) l h)
 | _,_,_=>none
def partO : Option D->Option (Option Int)
 | some (.int i)=>some (some i)
 | _=>none
def setO (mk : D->SD) (i : Nat) (x : Option D) (s : SS) : Option Out:=match x with
 | some d=>some (.nx (s.set i (some (mk d))))
 | none=>none
def rtO : Option D->Option Out
 | some d=>some (.rt d)
 | none=>none
def forX (i : Nat) (ds : Option (List D)) (b : SS->Option Out) (s : SS) : Option Out:=match ds with
 | some ds=>z9i i b ds s
 | none=>none
def z7I (i : Nat) (x : Option D) (s : SS) : Option Out:=match x with
 | some d=>some (.nx ((z0G i s).set i (some (.ow d))))
 | none=>none
def z3a (fc : DS->Option Bool) (fe : DE) (δ : DS) : D->Option (Option D):=fun x=>(fc (δ ++ [some x])).bind fun k=>if k=true then (fe (δ ++ [some x])).map some else some none
def z2a (xs : Option (List D)) (h : D->Option (Option D)) : Option (List D):=match xs with
 | some xs=>if xs.length≤sizeLine then z1Z h xs else none
 | none=>none
section
variable {f g h : DE} {δ : DS} {s : SS} {F : D->D->Option D} {c e : DS->Option Bool} {a b : SS->Option Out} {i j : Nat}
theorem y6F {x : Option D} {r : DS} : z0c 0 (x :: r)=x:=ho_var0
theorem y4t {x : Option D} {r : DS} : z0c (i + 1) (x :: r)=z0c i r:=(rfl)
theorem ev_C {d : D} : dC d δ=some d:=(rfl)
theorem ev_d2 : d2 F f g δ=o2 F (f δ) (g δ):=by
 unfold d2 o2
 cases f δ <;> cases g δ <;> rfl
theorem ev_d1 {G : D->Option D} : d1 G f δ=(f δ).bind G:=(rfl)
theorem y6b : z0F f δ=(f δ).bind asB:=by
 unfold z0F
 cases f δ with
 | none=>rfl
 | some d=>cases d <;> rfl
theorem y2c : z0I f δ=(f δ).bind z5r:=(rfl)
theorem y5g : z8Q c e δ=andT (c δ) (e δ):=by
 unfold z8Q
 rcases c δ with _ | _ | _ <;> rfl
theorem y9W : y7Q c e δ=orT (c δ) (e δ):=by
 unfold y7Q
 rcases c δ with _ | _ | _ <;> rfl
theorem y5I : z6p c δ=(c δ).map (!·):=(rfl)
theorem x0D : y7O f g δ=andO (f δ) (g δ):=by
 unfold y7O andO
 rcases f δ with _ | (_ | (_ | _) | _ | _ | _ | _ | _ | _) <;> rfl
theorem ev_if : dIf c f g δ=iteO (c δ) (f δ) (g δ):=by
 unfold dIf
 rcases c δ with _ | _ | _ <;> rfl
theorem y2k : z0o [] δ=some []:=(rfl)
theorem y1Q {r : List DE} : z0o (f :: r) δ=consA (f δ) (z0o r δ):=by
 show ((f δ).bind fun x=>(z0o r δ).bind fun xs=>some (x :: xs))=_
 cases f δ <;> cases z0o r δ <;> rfl
theorem y6f {M : List D->Option D} {fl : List DE} : z0k M fl δ=(z0o fl δ).bind M:=(rfl)
theorem y2t {M : List D->Option (List D)} {fl : List DE} : z1V M fl δ=(z0o fl δ).bind M:=(rfl)
theorem y9O {f : DS->Option (List D)} : mkL f δ=(f δ).map .lst:=(rfl)
theorem y9X {f : DS->Option (List D)} : mkT f δ=(f δ).map .tup:=(rfl)
theorem y0l {f : DS->Option (List D)} : z0C f δ=(z5H (f δ)).map .lst:=by
 unfold z0C z5H
 cases f δ with
 | none=>rfl
 | some ds=>
  show (if z2z ds=true then _ else _)=Option.map _ (if z2z ds=true then _ else _)
  split <;> rfl
theorem ev_is {T : String} : dIs T f δ=(f δ).map fun d=>.bl (isF T d):=(rfl)
theorem x0M : z5F f δ=(f δ).bind y7k:=(rfl)
theorem y4A : z2G f δ=rng1 (f δ):=(rfl)
theorem y5p : y8s f g δ=rng2 (f δ) (g δ):=(rfl)
theorem y6Z {fi : DS->Option (List D)} : z1U fi c f δ=z2a (fi δ) (z3a c f δ):=by
 unfold z1U z2a
 cases fi δ <;> rfl
theorem y4x : z6b f δ=partO (f δ):=(rfl)
theorem z9G : z2C δ=some none:=(rfl)
theorem x0m {fl fh : DS->Option (Option Int)} : y2z f fl fh δ=y7K (f δ) (fl δ) (fh δ):=by
 unfold y2z y7K
 rcases f δ with _ | (_ | _ | _ | _ | _ | _ | _ | _) <;> first | rfl | (cases fl δ <;> cases fh δ <;> rfl)
theorem y7o : z0J a b s=z9u (a s) b:=by
 unfold z0J z9u
 rcases a s with _ | (_ | _ | _ | _) <;> rfl
theorem y7w : z1a s=some (.nx s):=(rfl)
theorem y5d : z5k i f s=setO .sh i (f (shV s)) s:=by
 unfold z5k setO
 cases f (shV s) <;> rfl
theorem y6k : z9g i f s=setO .sh i (y7N (f (z0v s))) s:=by
 unfold z9g setO y7N
 cases f (z0v s) with
 | none=>rfl
 | some d=>
  show (if d.imm=true then _ else _)=(match (if d.imm=true then some d else none) with | some d=>some (Out.nx (s.set i (some (SD.sh d)))) | none=>none)
  split <;> rfl
theorem y6h : z7z i f s=setO .ow i (f (z0v s)) s:=by
 unfold z7z setO
 cases f (z0v s) <;> rfl
theorem y6Q : z4k f s=rtO (y7N (f (z0v s))):=by
 unfold z4k rtO y7N
 cases f (z0v s) with
 | none=>rfl
 | some d=>
  show (if d.imm=true then _ else _)=(match (if d.imm=true then some d else none) with | some d=>some (Out.rt d) | none=>none)
  split <;> rfl
theorem y4C : z7u f s=rtO (f (z0v s)):=by
 unfold z7u rtO
 cases f (z0v s) <;> rfl
theorem y6c : z7X f s=rtO (f (shV s)):=by
 unfold z7X rtO
 cases f (shV s) <;> rfl
theorem y4B : y7M i s=rtO (owA i s):=by
 unfold y7M rtO owA
 rcases s[i]? with _ | _ | ⟨x | x | ⟨r,x⟩⟩ <;> rfl
theorem x0y : ifO c a b s=iteO (c (z0v s)) (a s) (b s):=by
 unfold ifO
 rcases c (z0v s) with _ | _ | _ <;> rfl
theorem y4u {fi : DS->Option (List D)} : z5j i fi b s=forX i (fi (shV s)) b s:=by
 unfold z5j forX
 cases fi (shV s) <;> rfl
theorem y9S : frzO i b s=b (y7L i s):=(rfl)
theorem eo_2 {x y : D} : o2 F (some x) (some y)=F x y:=(rfl)
theorem x0s {x y : Bool} : andO (some (.bl x)) (some (.bl y))=some (.bl (x && y)):=by cases x <;> rfl
theorem y5e {x y : Bool} : andT (some x) (some y)=some (x && y):=by cases x <;> rfl
theorem x0t {x y : Bool} : orT (some x) (some y)=some (x || y):=by cases x <;> rfl
theorem y5L {α : Type} {x y : Option α} : iteO (some true) x y=x:=(rfl)
theorem y6m {α : Type} {x y : Option α} : iteO (some false) x y=y:=(rfl)
theorem y5G {x : D} {xs : List D} : consA (some x) (some xs)=some (x :: xs):=(rfl)
theorem eo_nx : z9u (some (.nx s)) b=b s:=(rfl)
theorem eo_rt {d : D} : z9u (some (.rt d)) b=some (.rt d):=(rfl)
theorem y9L {mk : D->SD} {d : D} : setO mk i (some d) s=some (.nx (s.set i (some (mk d)))):=(rfl)
theorem x0K {d : D} : rtO (some d)=some (.rt d):=(rfl)
theorem y9C {ds : List D} : forX i (some ds) b s=z9i i b ds s:=(rfl)
theorem y5P {n : Int} : y7N (some (.int n))=some (.int n):=(rfl)
theorem y6H {n : Bool} : y7N (some (.bl n))=some (.bl n):=(rfl)
theorem y5b {x : Str} : y7N (some (.str x))=some (.str x):=(rfl)
theorem z8j {ds : List D} (h : z2z ds=true) : z5H (some ds)=some ds:=if_pos h
theorem y7s {n : Int} : partO (some (.int n))=some (some n):=(rfl)
theorem eo_rng1 {n : Int} (h : -(2 ^ 62)≤n∧n < 2 ^ 62) : rng1 (some (.int n))=some (z7n 0 n.toNat):=if_pos h
theorem eo_rng2 {m n : Int} (h : -(2 ^ 62)≤m∧m < 2 ^ 62∧-(2 ^ 62)≤n∧n < 2 ^ 62) : rng2 (some (.int m)) (some (.int n))=some (z7n m (n - m).toNat):=if_pos h
theorem z4Z {xs : List D} {k : D->Option (Option D)} (h : xs.length≤1000000) : z2a (some xs) k=z1Z k xs:=if_pos (z3u h)
section
variable {m n : Int} {p q : Bool} {ds es : List D} {x y : Str} {ns : List Int}
theorem y5C : y4n (.int m) (.int n)=some (.int (m + n)):=(rfl)
theorem y6d (h : CMul m n) : x0J (.int m) (.int n)=some (.int (m * n)):=if_pos h
theorem y9U (h : CDiv m n) : divI (.int m) (.int n)=some (.int (m / n)):=if_pos h
theorem z4J (h : 0 < n) : z6i (.int m) (.int n)=some (.int (m % n)):=if_pos h
theorem ea_lt : ltI (.int m) (.int n)=some (.bl (decide (m < n))):=(rfl)
theorem ea_le : leI (.int m) (.int n)=some (.bl (decide (m≤n))):=(rfl)
theorem ea_gt : gtI (.int m) (.int n)=some (.bl (decide (n < m))):=(rfl)
theorem y9N : eqD (.int m) (.int n)=some (.bl (decide (m=n))):=(rfl)
theorem y3h : neD (.int m) (.int n)=some (.bl (!decide (m=n))):=(rfl)
theorem y9B : y8U (.int m)=some (.int (-m)):=(rfl)
theorem x0p : uNot (.bl p)=some (.bl (!p)):=(rfl)
theorem y7j : z5r (.bl p)=some p:=(rfl)
theorem y4D : y7k (.lst ds)=some ds:=(rfl)
theorem y4p : z3v [.lst ds]=some (.int (ds.length : Int)):=(rfl)
theorem y5f : z3v [.scr ns]=some (.int (ns.length : Int)):=(rfl)
theorem x0E : ixD (.lst ds) (.int m)=atI ds m:=(rfl)
theorem x0b : ixD (.scr ns) (.int m)=(atI ns m).map .int:=(rfl)
theorem y4R : isF "bool" (.int m)=false:=(rfl)
theorem y5D : isF "int" (.int m)=true:=(rfl)
theorem x0R : asB (.bl p)=some p:=(rfl)
end
theorem eb_bs {α β : Type} {a : α} {k : α->Option β} : (some a).bind k=k a:=(rfl)
theorem eb_bn {α β : Type} {k : α->Option β} : (none : Option α).bind k=none:=(rfl)
theorem eb_ms {α β : Type} {a : α} {k : α->β} : (some a).map k=some (k a):=(rfl)
theorem eb_mn {α β : Type} {k : α->β} : (none : Option α).map k=none:=(rfl)
theorem eb_s0 {α : Type} {x y : α} {r : List α} : (x :: r).set 0 y=y :: r:=(rfl)
theorem eb_sS {α : Type} {n : Nat} {x y : α} {r : List α} : (x :: r).set (n + 1) y=x :: r.set n y:=(rfl)
theorem eb_mc {α β : Type} {x : α} {r : List α} {k : α->β} : (x :: r).map k=k x :: r.map k:=(rfl)
theorem y6r {α β : Type} {k : α->β} : ([] : List α).map k=[]:=(rfl)
theorem eb_rS {α : Type} {n : Nat} {x : α} : ae (n + 1) x=x :: ae n x:=(rfl)
theorem eb_r0 {α : Type} {x : α} : ae 0 x=[]:=(rfl)
theorem eb_ca {α : Type} {x : α} {r t : List α} : (x :: r) ++ t=x :: (r ++ t):=(rfl)
theorem eb_na {α : Type} {t : List α} : [] ++ t=t:=(rfl)
theorem y5j : z0v []=[]:=(rfl)
theorem y5q {x : Option SD} {r : SS} : z0v (x :: r)=x.map SD.val :: z0v r:=(rfl)
theorem y9Q : shV []=[]:=(rfl)
theorem x0k {x : Option SD} {r : SS} : shV (x :: r)=shO x :: shV r:=(rfl)
theorem x0g {d : D} : shO (some (.sh d))=some d:=(rfl)
theorem y2i : z0G i []=[]:=(rfl)
theorem y3j {x : Option SD} {r : SS} : z0G i (x :: r)=y1N i x :: z0G i r:=(rfl)
theorem y0e {d : D} : y1N i (some (.sh d))=some (.sh d):=(rfl)
theorem z9F {d : D} : y1N i (some (.ow d))=some (.ow d):=(rfl)
theorem y2Z : y1N i none=none:=(rfl)
theorem x0j {d : D} {r : SS} : owA 0 (some (.ow d) :: r)=some d:=(rfl)
theorem x0i {x : Option SD} {r : SS} : owA (i + 1) (x :: r)=owA i r:=(rfl)
end
end L2
namespace L2
open PySem
def y4q : Option (List D)->Option (List D):=z5H
def st0V (o k v : Option D) : Option D:=match o,k,v with
 | some (.lst ds),some (.int k),some d=>(ixN ds.length k).map fun j=>.lst (ds.set j d)
 | _,_,_=>none
def st1V (o k j v : Option D) : Option D:=match o,k,j,v with
 | some (.lst ds),some (.int k),some (.int j),some d=>(ixN ds.length k).bind fun k'=>(match ds[k']? with
  | some (.lst es)=>if z2z es=true then (ixN es.length j).map fun j'=>.lst (ds.set k' (.lst (es.set j' d))) else none
  | _=>none)
 | _,_,_,_=>none
def m0V (M : List D->List D->Option (List D)) (o : Option D) (args : Option (List D)) : Option D:=match o,args with
 | some (.lst ds),some args=>(M ds args).map .lst
 | _,_=>none
section
variable {f g fk fj fv : DE} {s : SS} {i : Nat} {M : List D->List D->Option (List D)} {fl : List DE}
theorem x0S {d : D} : z7I i (some d) s=some (.nx ((z0G i s).set i (some (.ow d)))):=(rfl)
theorem z8C {ds : List D} (h : z2z ds=true) : y4q (some ds)=some ds:=if_pos h
def kI : D->Option Int
 | .int k=>some k
 | _=>none
def kL : D->Option (List D)
 | .lst ds=>some ds
 | _=>none
def kW : Option (Option SD)->Option D
 | some (some (.ow d))=>some d
 | _=>none
theorem y9M : owA i s=kW s[i]?:=by
 unfold owA kW
 generalize s[i]? = x
 rcases x with _ | _ | ⟨x | x | ⟨r,x⟩⟩ <;> rfl
theorem mt2 {β : Type} {k : D} {x : Option (Option SD)} {F : Int->List D->Option β} : (match k,x with | .int k,some (some (.ow (.lst ds)))=>F k ds | _,_=>none)=(kI k).bind fun k=>((kW x).bind kL).bind fun ds=>F k ds:=by
 cases k with
 | int k=>rcases x with _ | _ | ⟨x | x | ⟨r,x⟩⟩ <;> first | rfl | (cases x <;> rfl)
 | _=>rfl
theorem mt3 {β : Type} {k j : D} {x : Option (Option SD)} {F : Int->Int->List D->Option β} : (match k,j,x with | .int k,.int j,some (some (.ow (.lst ds)))=>F k j ds | _,_,_=>none)=(kI k).bind fun k=>(kI j).bind fun j=>((kW x).bind kL).bind fun ds=>F k j ds:=by
 cases k with
 | int k=>
  cases j with
  | int j=>rcases x with _ | _ | ⟨x | x | ⟨r,x⟩⟩ <;> first | rfl | (cases x <;> rfl)
  | _=>rfl
 | _=>rfl
theorem st0V_k {o k v : Option D} : st0V o k v=(o.bind kL).bind fun ds=>(k.bind kI).bind fun k=>v.bind fun d=>(ixN ds.length k).map fun j=>.lst (ds.set j d):=by
 rcases o with _ | o
 ·rfl
 ·cases o with
  | lst ds=>
   rcases k with _ | k
   ·rfl
   ·cases k with
    | int k=>cases v <;> rfl
    | _=>rfl
  | _=>rfl
theorem x0L {o k j v : Option D} : st1V o k j v=(o.bind kL).bind fun ds=>(k.bind kI).bind fun k=>(j.bind kI).bind fun j=>v.bind fun d=>(ixN ds.length k).bind fun k'=>(match ds[k']? with
  | some (.lst es)=>if z2z es=true then (ixN es.length j).map fun j'=>.lst (ds.set k' (.lst (es.set j' d))) else none
  | _=>none):=by
 rcases o with _ | o
 ·rfl
 ·cases o with
  | lst ds=>
   rcases k with _ | k
   ·rfl
   ·cases k with
    | int k=>
     rcases j with _ | j
     ·rfl
     ·cases j with
      | int j=>cases v <;> rfl
      | _=>rfl
    | _=>rfl
  | _=>rfl
theorem y5S {α : Type} {x : Option α} {F : α->Option D} : z7I i (x.bind F) s=x.bind fun a=>z7I i (F a) s:=by cases x <;> rfl
theorem z3l {α β : Type} {x : Option α} : (x.bind fun _=>(none : Option β))=none:=by cases x <;> rfl
theorem x0o : st0 i fk fv s=z7I i (st0V (owA i s) (fk (z0v s)) (y7N (fv (z0v s)))) s:=by
 have e : st0 i fk fv s=(fv (z0v s)).bind fun d=>if d.imm=true then (fk (z0v s)).bind fun dk=>(kI dk).bind fun k=>((kW s[i]?).bind kL).bind fun ds=>(ixN ds.length k).map fun j=>.nx ((z0G i s).set i (some (.ow (.lst (ds.set j d))))) else none:=by
  refine congrArg (Option.bind (fv (z0v s))) (funext fun d=>?_)
  refine congrArg (fun z=>if d.imm=true then z else none) ?_
  refine congrArg (Option.bind (fk (z0v s))) (funext fun dk=>?_)
  exact mt2 (F:=fun k ds=>(ixN ds.length k).map fun j=>Out.nx ((z0G i s).set i (some (.ow (.lst (ds.set j d))))))
 rw [e,st0V_k,y9M]
 simp only [y5S]
 generalize (kW s[i]?).bind kL=x
 rcases fv (z0v s) with _ | d
 ·show none=x.bind fun ds=>((fk (z0v s)).bind kI).bind fun k=>(none : Option Out)
  simp only [z3l]
 ·show (if d.imm=true then (fk (z0v s)).bind fun dk=>_ else none)=x.bind fun ds=>((fk (z0v s)).bind kI).bind fun k=>(if d.imm=true then some d else none).bind fun d=>_
  split
  ·rcases fk (z0v s) with _ | k
   ·simp only [bx,z3l]
   ·simp only [am]
    cases kI k with
    | none=>simp only [bx,z3l]
    | some k=>
     simp only [am]
     cases x with
     | none=>rfl
     | some ds=>
      simp only [am]
      cases ixN ds.length k <;> rfl
  ·simp only [bx,z3l]
theorem m_st1 {k j : Int} {d : D} {ds : List D} : ((ixN ds.length k).bind fun k'=>(match ds[k']? with
   | some (.lst es)=>if z2z es=true then (ixN es.length j).map fun j'=>Out.nx ((z0G i s).set i (some (.ow (.lst (ds.set k' (.lst (es.set j' d))))))) else none
   | _=>none))=z7I i (st1V (some (.lst ds)) (some (.int k)) (some (.int j)) (some d)) s:=by
 show _=z7I i ((ixN ds.length k).bind _) s
 cases ixN ds.length k with
 | none=>rfl
 | some k'=>
  rw [am,am]
  cases ds[k']? with
  | none=>rfl
  | some y=>
   cases y with
   | lst es=>
    dsimp only
    split
    ·cases ixN es.length j <;> rfl
    ·rfl
   | _=>rfl
theorem x0q : st1 i fk fj fv s=z7I i (st1V (owA i s) (fk (z0v s)) (fj (z0v s)) (y7N (fv (z0v s)))) s:=by
 have e : st1 i fk fj fv s=(fv (z0v s)).bind fun d=>if d.imm=true then (fk (z0v s)).bind fun dk=>(fj (z0v s)).bind fun dj=>(kI dk).bind fun k=>(kI dj).bind fun j=>((kW s[i]?).bind kL).bind fun ds=>(ixN ds.length k).bind fun k'=>(match ds[k']? with
   | some (.lst es)=>if z2z es=true then (ixN es.length j).map fun j'=>.nx ((z0G i s).set i (some (.ow (.lst (ds.set k' (.lst (es.set j' d))))))) else none
   | _=>none) else none:=by
  refine congrArg (Option.bind (fv (z0v s))) (funext fun d=>?_)
  refine congrArg (fun z=>if d.imm=true then z else none) ?_
  refine congrArg (Option.bind (fk (z0v s))) (funext fun dk=>?_)
  refine congrArg (Option.bind (fj (z0v s))) (funext fun dj=>?_)
  exact mt3 (F:=fun k j ds=>(ixN ds.length k).bind fun k'=>(match ds[k']? with
   | some (.lst es)=>if z2z es=true then (ixN es.length j).map fun j'=>Out.nx ((z0G i s).set i (some (.ow (.lst (ds.set k' (.lst (es.set j' d))))))) else none
   | _=>none))
 rw [e,x0L,y9M]
 simp only [y5S]
 generalize (kW s[i]?).bind kL=x
 rcases fv (z0v s) with _ | d
 ·show none=x.bind fun ds=>((fk (z0v s)).bind kI).bind fun k=>((fj (z0v s)).bind kI).bind fun j=>(none : Option Out)
  simp only [z3l]
 ·show (if d.imm=true then (fk (z0v s)).bind fun dk=>_ else none)=x.bind fun ds=>((fk (z0v s)).bind kI).bind fun k=>((fj (z0v s)).bind kI).bind fun j=>(if d.imm=true then some d else none).bind fun d=>_
  split
  ·rcases fk (z0v s) with _ | k
   ·simp only [bx,z3l]
   ·simp only [am]
    rcases fj (z0v s) with _ | j
    ·simp only [bx,z3l]
    ·simp only [am]
     cases kI k with
     | none=>simp only [bx,z3l]
     | some k=>
      cases kI j with
      | none=>simp only [bx,am,z3l]
      | some j=>
       simp only [am]
       cases x with
       | none=>rfl
       | some ds=>
        have:=m_st1 (i:=i) (s:=s) (k:=k) (j:=j) (d:=d) (ds:=ds)
        rw [x0L] at this
        simp only [am,y5S,kL,kI] at this
        simp only [am]
        exact this
  ·simp only [bx,z3l]
theorem ev_m0 : m0 i M fl s=z7I i (m0V M (owA i s) (y4q (z0o fl (z0v s)))) s:=by
 unfold m0 owA
 rcases z0o fl (z0v s) with _ | args
 ·rcases s[i]? with _ | _ | ⟨x | x | ⟨r,x⟩⟩ <;> (first | rfl | (cases x <;> rfl))
 ·show (if z2z args=true then _ else _)=z7I i (m0V M _ (if z2z args=true then some args else none)) s
  split
  ·rcases s[i]? with _ | _ | ⟨x | x | ⟨r,x⟩⟩ <;> (first | rfl | (cases x <;> first | rfl | (rename_i ds; show Option.map _ (M ds args)=z7I i (Option.map _ (M ds args)) s; cases M ds args <;> rfl)))
  ·rcases s[i]? with _ | _ | ⟨x | x | ⟨r,x⟩⟩ <;> (first | rfl | (cases x <;> rfl))
theorem y3e : y4Q i f s=z7I i (m0V y4g (owA i s) (consA (f (z0v s)) (some []))) s:=by
 unfold y4Q owA
 rcases f (z0v s) with _ | d
 ·rcases s[i]? with _ | _ | ⟨x | x | ⟨r,x⟩⟩ <;> (first | rfl | (cases x <;> rfl))
 ·rcases s[i]? with _ | _ | ⟨x | x | ⟨r,x⟩⟩ <;> (first | rfl | (cases x <;> first | rfl | (rename_i ds; show Option.map _ (y4g ds [d])=z7I i (Option.map _ (y4g ds [d])) s; cases y4g ds [d] <;> rfl)))
end
theorem es_v1 {d : D} : (SD.sh d).val=d:=(rfl)
theorem es_v2 {d : D} : (SD.ow d).val=d:=(rfl)
theorem y9D {bs : List Bool} : allF [.lst (bs.map bD)]=some (.bl (bs.all fun b=>b)):=by
 show (z8m (bs.map bD)).map (fun bs=>D.bl (bs.all fun b=>b))=_
 rw [z9R]
 rfl
theorem y2Q {T : List (List Bool)} {a b : Nat} {v : Bool} (ha : a < T.length) (hb : b < T[a].length) : st1V (some (z0r T)) (some (.int (a : Int))) (some (.int (b : Int))) (some (.bl v))=some (z0r (T.set a (T[a].set b v))):=by
 show ((ixN (T.map z4L).length (a : Int)).bind fun k'=>(match (T.map z4L)[k']? with
  | some (.lst es)=>if z2z es=true then (ixN es.length (b : Int)).map fun j'=>D.lst ((T.map z4L).set k' (.lst (es.set j' (.bl v)))) else none
  | _=>none))=_
 rw [y1o (by simpa using ha),am]
 have e1 : (T.map z4L)[a]? = some (.lst (T[a].map bD)):=by rw [aN,av ha]; rfl
 rw [e1]
 dsimp only
 rw [if_pos (z3Q _),y1o (by simpa using hb),bH]
 unfold z0r
 rw [d8]
 unfold z4L
 rw [d8]
 rfl
theorem z3W {T : List (List Bool)} : z3v [z0r T]=some (.int (T.length : Int)):=by
 show some (D.int ((T.map z4L).length : Nat))=_
 rw [aq]
theorem ix_tab {T : List (List Bool)} {k : Nat} (h : k < T.length) : ixD (z0r T) (.int (k : Int))=some (z4L T[k]):=tab_ix h
theorem ix_row {r : List Bool} {k : Nat} (h : k < r.length) : ixD (z4L r) (.int (k : Int))=some (.bl r[k]):=row_ix h
theorem ins_at {n b : Nat} (h : b≤n) : y3u n (b : Int)=b:=by
 unfold y3u
 rw [if_neg (by omega),dh,cL h]
theorem y1g {x : Int} {n : Nat} (h : 0 < n) : ∃ a : Nat,x % (n : Int)=(a : Int)∧a < n:=by
 have h1:=Int.emod_nonneg x (show (n : Int)≠0 by omega)
 have h2:=Int.emod_lt_of_pos x (show (0 : Int) < n by omega)
 exact ⟨(x % (n : Int)).toNat,by omega,by omega⟩
theorem y1w {α : Type} {enc : α->D} {c : DS->Option Bool} {f : DE} {δ : DS} (p : α->Bool) (g : α->D) : ∀ {xs : List α},(∀ x∈xs,c (δ ++ [some (enc x)])=some (p x))->(∀ x∈xs,p x=true->f (δ ++ [some (enc x)])=some (g x))->z1Z (z3a c f δ) (xs.map enc)=some ((xs.filter p).map g)
 | [],_,_=>rfl
 | x :: r,hc,hf=>by
  have ih:=y1w (xs:=r) p g (fun y hy=>hc y (af _ hy)) fun y hy=>hf y (af _ hy)
  rw [aM]
  unfold z1Z
  rw [ih]
  unfold z3a
  rw [hc x ac]
  cases hp : p x with
  | true=>
   show ((if true=true then (f (δ ++ [some (enc x)])).map some else some none).bind _)=_
   rw [if_pos rfl,hf x ac hp,dY hp]
   rfl
  | false=>
   rw [dZ (by rw [hp]; exact ax)]
   rfl
theorem z6e {α : Type} {enc : α->D} {f : DE} {δ : DS} (g : α->D) {xs : List α} (hf : ∀ x∈xs,f (δ ++ [some (enc x)])=some (g x)) : z1Z (z3a z5p f δ) (xs.map enc)=some (xs.map g):=by
 rw [y1w (fun _=>true) g (fun _ _=>rfl) fun x hx _=>hf x hx,bQ.mpr fun _ _=>rfl]
def nD (n : Nat) : D:=.int (n : Int)
theorem z4m {n : Nat} : z7n 0 n=(ah n).map nD:=by
 unfold z7n nD
 refine cR fun k _=>?_
 rw [bW]
theorem x0f {α : Type} {xs : List α} {k : Nat} (h : k < xs.length) : atI xs (k : Int)=some xs[k]:=z1q (av h)
theorem ixN_of {n k : Nat} (h : k < n) : ixN n (k : Int)=some k:=y1o h
end L2
namespace L2
open PySem
theorem y5T {α : Type} {xs : List α} {x : α} : atI (xs ++ [x]) (-1)=some x:=by
 unfold atI ixN
 rw [if_neg (by omega),aH,eu,if_pos (by omega)]
 have e : (-1 + ((xs.length + 1 : Nat) : Int)).toNat=xs.length:=by omega
 rw [e]
 simp
theorem y1Z : ∀ o : List Int,z2z (o.map D.int)=true
 | []=>rfl
 | n :: o=>by
  show (true && z2z (o.map D.int))=true
  rw [y1Z o]
  rfl
theorem y2F : ∀ o : List Int,PyData.canLayAll0 (z5N (o.map D.int))=true
 | []=>rfl
 | n :: o=>by
  show (true && PyData.canLayAll0 (z5N (o.map D.int)))=true
  rw [y2F o]
  rfl
theorem y1U : ∀ o : List Int,PyData.depthAll (z5N (o.map D.int))=0
 | []=>rfl
 | n :: o=>by
  show max 0 (PyData.depthAll (z5N (o.map D.int)))=0
  rw [y1U o]
  rfl
theorem z0E {x : Option Out} {b : SS->Option Out} {I : SS->Prop} {Q : Out->Prop} (h : hol x fun o=>∃ s,o = .nx s∧I s) (k : ∀ s,I s->hol (b s) Q) : hol (z9u x b) Q:=by
 obtain ⟨o,rfl,s,rfl,q⟩:=h
 exact k s q
def rngI (m : Nat) : List Int:=(ah m).map fun k=>((k : Nat) : Int)
structure Good (m : Nat) (b : Int × List Int) : Prop where
 lo : 1≤b.1
 hi : b.1≤10 ^ 30
 perm : b.2.Perm (rngI m)
end L2
namespace L2
open PySem
def at2 (T : List (List Bool)) (i j : Nat) : Bool:=(T.getD i []).getD j false
def thD (th : List Nat) : D:=.lst (th.map nD)
theorem y6w {T : List (List Bool)} {i : Nat} (h : i < T.length) : ixD (z0r T) (.int (i : Int))=some (z4L (T.getD i [])):=by
 rw [ix_tab h]
 simp [cv,av h]
theorem ix_row' {r : List Bool} {j : Nat} (h : j < r.length) : ixD (z4L r) (.int (j : Int))=some (.bl (r.getD j false)):=by
 rw [ix_row h]
 simp [cv,av h]
theorem Sq.len {n : Nat} {T : List (List Bool)} (h : Sq n T) {i : Nat} (hi : i < n) : (T.getD i []).length=n:=by
 have h1 : i < T.length:=by rw [h.1]; exact hi
 have : T.getD i []=T[i]:=by simp [cv,av h1]
 rw [this]
 exact h.row h1
theorem ix2 {n : Nat} {T : List (List Bool)} (h : Sq n T) {i j : Nat} (hi : i < n) (hj : j < n) : o2 ixD (ixD (z0r T) (.int (i : Int))) (some (.int (j : Int)))=some (.bl (at2 T i j)):=by
 rw [y6w (by rw [h.1]; exact hi),eo_2,ix_row' (by rw [h.len hi]; exact hj)]
 rfl
theorem seq_tab {T : List (List Bool)} : y7k (z0r T)=some (T.map z4L):=(rfl)
theorem z3d {th : List Nat} : y7k (thD th)=some (th.map nD):=(rfl)
theorem z6m {th : List Nat} : z3v [thD th]=some (.int (th.length : Int)):=by
 show some (D.int ((th.map nD).length : Nat))=_
 rw [aq]
theorem z9r : ∀ th : List Nat,z2z (th.map nD)=true
 | []=>rfl
 | n :: th=>by
  show (true && z2z (th.map nD))=true
  rw [z9r th]
  rfl
theorem x0U (th : List Nat) : okP (thD th)=true:=by
 have e : th.map nD=(th.map fun n=>((n : Nat) : Int)).map D.int:=by rw [bq]; rfl
 unfold okP thD
 rw [e,aK,decide_eq_true_eq]
 refine ⟨y2F _,?_⟩
 show PyData.depthAll (z5N ((th.map fun n=>((n : Nat) : Int)).map D.int)) + 1≤60
 rw [y1U]
 decide
theorem ne_self {d : D} (h : okP d=true) : neD d d=some (.bl false):=by
 unfold neD
 rw [h]
 show (if (true && true)=true then some (D.bl (!PyData.eqv (toP d) (toP d))) else none)=_
 rw [if_pos (show (true && true)=true from rfl),SeqAt.eqv_refl _ (z0x h).1]
 rfl
theorem app_thV {th : List Nat} {k : Nat} (hl : th.length≤1000000) : m0V y4g (some (thD th)) (some [.int (k : Int)])=some (thD (th ++ [k])):=by
 show Option.map _ (if (th.map nD).length < sizeLine then some (th.map nD ++ [.int (k : Int)]) else none)=_
 rw [aq,if_pos (by rw [PySem.sizeLine_eq]; omega)]
 unfold thD
 rw [aP]
 rfl
theorem ins_thV {o : List Nat} {b v : Nat} (hb : b≤o.length) (hl : o.length≤1000000) : m0V insF (some (thD o)) (some [.int (b : Int),.int (v : Int)])=some (thD (o.take b ++ v :: o.drop b)):=by
 show Option.map _ (if (o.map nD).length < sizeLine∧-(2 ^ 63)≤(b : Int)∧(b : Int) < 2 ^ 63 then _ else none)=_
 rw [aq,if_pos ⟨by rw [PySem.sizeLine_eq]; omega,by omega,by omega⟩,ins_at hb]
 unfold thD
 rw [aP,aM,cW,cX]
 rfl
theorem y2M {fi : DS->Option (List D)} {c : DS->Option Bool} {f : DE} {δ : DS} : z4j fi c f δ=z2a (fi δ) (two (z3T c f δ)):=by
 unfold z4j z2a
 cases fi δ <;> rfl
theorem y7x {f : DE} {δ : DS} : z7F f δ=(f δ).bind z9K:=(rfl)
def z4K (k : Nat) : List Bool->List Nat
 | []=>[]
 | b :: r=>if b=true then k :: z4K (k + 1) r else z4K (k + 1) r
theorem y4H : ∀ {r : List Bool} {k : Nat},z4K k r=(dD k r.length).filter fun i=>r.getD (i - k) false
 | [],_=>rfl
 | b :: r,k=>by
  have ih:=y4H (r:=r) (k:=k + 1)
  unfold z4K
  rw [bb,List.range'_succ]
  have e : (dD (k + 1) r.length).filter (fun i=>(b :: r).getD (i - k) false)=(dD (k + 1) r.length).filter fun i=>r.getD (i - (k + 1)) false:=by
   apply cE
   intro i hi
   have:=(List.mem_range'_1.mp hi).1
   have e : i - k=(i - (k + 1)) + 1:=by omega
   rw [e]
   rfl
  cases b with
  | true=>
   rw [dY (by simp),e,ih]
   rfl
  | false=>
   rw [dZ (by simp),e,ih]
   rfl
theorem z6T : ∀ {ds : List D} {k : Nat},(z0u k ds).length=ds.length
 | [],_=>rfl
 | d :: r,k=>by show (z0u (k + 1) r).length + 1=r.length + 1; rw [z6T]
end L2
namespace L2
open PySem
def chO (F G : D->D->Option D) (x y z : Option D) : Option D:=match x,y with
 | some x,some y=>match F x y with
  | some (.bl true)=>z.bind fun z=>G y z
  | some (.bl false)=>some (.bl false)
  | _=>none
 | _,_=>none
theorem y1O {F G : D->D->Option D} {f g h : DE} {δ : DS} : z7Z F G f g h δ=chO F G (f δ) (g δ) (h δ):=by
 unfold z7Z chO
 cases f δ <;> cases g δ <;> rfl
theorem y8p {F G : D->D->Option D} {x y z : D} {b c : Bool} (h1 : F x y=some (.bl b)) (h2 : G y z=some (.bl c)) : chO F G (some x) (some y) (some z)=some (.bl (b && c)):=by
 show (match F x y with
  | some (.bl true)=>(some z).bind fun z=>G y z
  | some (.bl false)=>some (.bl false)
  | _=>none)=_
 rw [h1]
 cases b with
 | true=>exact h2
 | false=>rfl
def inO : Option D->Option D->Option Bool
 | some x,some y=>inK x y
 | _,_=>none
theorem y7q {f g : DE} {δ : DS} : y8C f g δ=inO (f δ) (g δ):=by
 unfold y8C inO
 cases f δ <;> cases g δ <;> rfl
theorem eo_in {x y : D} : inO (some x) (some y)=inK x y:=(rfl)
theorem y5W {f g : DE} {δ : DS} : y8c f g δ=(y8C f g δ).map (!·):=(rfl)
def y4s (o k v : Option D) : Option D:=match o,k,v with
 | some (.dct ks ds),some dk,some d=>(y1K dk).bind fun k=>if z2z ds=true∧ks.length < sizeLine then some (.dct (z9z ks k) (y0p ks ds k d)) else none
 | _,_,_=>none
theorem m_dput {i : Nat} {s : SS} {dk d : D} {ks : List Key} {ds : List D} : (match y1K dk,(some (some (SD.ow (.dct ks ds))) : Option (Option SD)) with
   | some k,some (some (.ow (.dct ks ds)))=>if z2z ds=true∧ks.length < sizeLine then some (Out.nx ((z0G i s).set i (some (.ow (.dct (z9z ks k) (y0p ks ds k d)))))) else none
   | _,_=>none)=z7I i (y4s (some (.dct ks ds)) (some dk) (some d)) s:=by
 show _=z7I i ((y1K dk).bind _) s
 cases y1K dk with
 | none=>rfl
 | some k=>
  show (if z2z ds=true∧ks.length < sizeLine then _ else _)=z7I i (if z2z ds=true∧ks.length < sizeLine then _ else _) s
  split <;> rfl
theorem y5s {i : Nat} {fk fv : DE} {s : SS} : dput i fk fv s=z7I i (y4s (owA i s) (fk (z0v s)) (y7N (fv (z0v s)))) s:=by
 unfold dput owA
 rcases fv (z0v s) with _ | d
 ·rcases fk (z0v s) with _ | dk <;> rcases s[i]? with _ | _ | ⟨x | x | ⟨r,x⟩⟩ <;> (first | rfl | (cases x <;> rfl))
 ·show (if d.imm=true then _ else _)=z7I i (y4s _ _ (if d.imm=true then some d else none)) s
  split
  ·rcases fk (z0v s) with _ | dk
   ·rcases s[i]? with _ | _ | ⟨x | x | ⟨r,x⟩⟩ <;> (first | rfl | (cases x <;> rfl))
   ·rw [am]
    rcases s[i]? with _ | _ | ⟨x | x | ⟨r,x⟩⟩
    ·cases y1K dk <;> rfl
    ·cases y1K dk <;> rfl
    ·cases y1K dk <;> rfl
    ·cases x with
     | dct ks ds=>exact m_dput
     | _=>(cases y1K dk <;> rfl)
    ·cases y1K dk <;> rfl
  ·rcases fk (z0v s) with _ | dk <;> rcases s[i]? with _ | _ | ⟨x | x | ⟨r,x⟩⟩ <;> (first | rfl | (cases x <;> rfl))
def catO : Option D->Option D->Option (List D)
 | some x,some y=>catLs x y
 | _,_=>none
theorem x0C {f g : DE} {δ : DS} : y4l f g δ=catO (f δ) (g δ):=by
 unfold y4l catO
 cases f δ <;> cases g δ <;> rfl
theorem eo_cat {ds es : List D} (h : ds.length + es.length≤1000000) : catO (some (.lst ds)) (some (.lst es))=some (ds ++ es):=if_pos (z3u h)
theorem y7G {d : D} {r : SS} : y7L 0 (some (.ow d) :: r)=some (.sh d) :: r:=(rfl)
theorem y4G {i : Nat} {x : Option SD} {r : SS} : y7L (i + 1) (x :: r)=x :: y7L i r:=by
 unfold y7L
 rw [dX]
 rcases r[i]? with _ | _ | ⟨y | y | ⟨q,y⟩⟩ <;> rfl
def y1a (p : List Int) : D:=.dct (p.map Sum.inl) (p.map fun _=>.bl true)
theorem y5Q {p : List Int} {x : Int} (h : x ∉ p) : inK (.int x) (y1a p)=some false:=by
 show some (y0G (p.map Sum.inl) (.inl x))=_
 congr 1
 unfold y0G
 rw [c8,c9]
 intro y hy z
 have : (Sum.inl y : Key)=Sum.inl x:=of_decide_eq_true z
 cases this
 exact h hy
theorem y0x : ∀ p : List Int,z2z (p.map fun _=>D.bl true)=true
 | []=>rfl
 | _ :: p=>by
  show (true && z2z (p.map fun _=>D.bl true))=true
  rw [y0x p]
  rfl
theorem y8k {p : List Int} {x : Int} (h : x ∉ p) (hl : p.length≤1000000) : y4s (some (y1a p)) (some (.int x)) (some (.bl true))=some (y1a (p ++ [x])):=by
 show (if z2z (p.map fun _=>D.bl true)=true∧(p.map (Sum.inl : Int->Key)).length < sizeLine then _ else _)=_
 rw [if_pos ⟨y0x p,by rw [aq,PySem.sizeLine_eq]; omega⟩]
 have hh : y0G (p.map Sum.inl) (.inl x)=false:=by
  have:=y5Q h
  exact Option.some.inj this
 unfold z9z y0p y1a
 rw [hh,if_neg ax,if_neg ax,aP,aP]
 rfl
end L2
namespace Prg
open PySem L2
def extV (o x : Option D) : Option D:=match x,o with
 | some (.lst es),some (.lst ds)=>if ds.length + es.length≤sizeLine then some (.lst (ds ++ es)) else none
 | _,_=>none
theorem y2d {i : Nat} {f : DE} {s : SS} : y4P i f s=z7I i (extV (owA i s) (f (z0v s))) s:=by
 unfold y4P owA
 rcases f (z0v s) with _ | d
 ·rcases s[i]? with _ | _ | ⟨x | x | ⟨r,x⟩⟩ <;> (first | rfl | (cases x <;> rfl))
 ·rcases s[i]? with _ | _ | ⟨x | x | ⟨r,x⟩⟩ <;> cases d <;> (first | rfl | (cases x <;> first | rfl | skip))
  rename_i es ds
  show (if ds.length + es.length≤sizeLine then some _ else none)=z7I i (if ds.length + es.length≤sizeLine then some _ else none) s
  split <;> rfl
theorem eo_ext {ds es : List D} (h : ds.length + es.length≤1000000) : extV (some (.lst ds)) (some (.lst es))=some (.lst (ds ++ es)):=if_pos (z3u h)
theorem y7z {f : DE} {δ : DS} : y1A f δ=(f δ).map fun d=>!isN d:=(rfl)
theorem y0U {ds : List D} : y8e [.lst ds]=some ds.reverse:=(rfl)
theorem y2r : ∀ ns : List Int,z4p (ns.map .int)=some ns
 | []=>rfl
 | n :: ns=>by
  rw [aM]
  unfold z4p
  rw [y2r ns]
  rfl
def sm (f : Nat->Nat) : Nat->Nat
 | 0=>0
 | n + 1=>sm f n + f n
end Prg
namespace L2
open PySem
theorem y1D {α : Type} {enc : α->D} {c : DS->Option Bool} {f : DE} {δ : DS} (p : α->Bool) (g : α->D) {xs : List α} (hl : xs.length≤1000) (hc : ∀ x∈xs,c (δ ++ [some (enc x)])=some (p x)) (hf : ∀ x∈xs,p x=true->f (δ ++ [some (enc x)])=some (g x)) : z2a (some (xs.map enc)) (z3a c f δ)=some ((xs.filter p).map g):=by
 rw [z4Z (by rw [aq]; omega)]
 exact y1w p g hc hf
theorem z7O {α : Type} {enc : α->D} {f : DE} {δ : DS} (g : α->D) {xs : List α} (hl : xs.length≤1000) (hf : ∀ x∈xs,f (δ ++ [some (enc x)])=some (g x)) : z2a (some (xs.map enc)) (z3a z5p f δ)=some (xs.map g):=by
 rw [z4Z (by rw [aq]; omega)]
 exact z6e g hf
theorem z1t {m : Nat} (h : m≤1000000) : rng1 (some (.int (m : Int)))=some (z7n 0 m):=by rw [eo_rng1 (by omega)]; rfl
theorem y5c {a : Nat} {th : List Nat} : y9t (.int (a : Int)) (thD th)=some (th.contains a):=by
 unfold thD y9t
 show (if (okP (.int (a : Int)) && okP (.lst (th.map nD)))=true then _ else none)=_
 rw [show okP (.lst (th.map nD))=true from x0U th,show okP (.int (a : Int))=true from rfl]
 show some ((th.map nD).any fun y=>PyData.eqv (toP y) (toP (.int (a : Int))))=_
 congr 1
 rw [c8,dS]
 congr 1
 funext x
 show decide ((x : Int)=(a : Int))=(a == x)
 by_cases h : x=a
 ·subst h; simp
 ·have : ¬ a=x:=fun e=>h e.symm
  have h2 : ¬ (x : Int)=(a : Int):=by omega
  simp [this,h2]
theorem y9H {a : Nat} {th : List Nat} : inD (.int (a : Int)) (thD th)=some (.bl (th.contains a)):=by
 unfold inD
 rw [y5c]
 rfl
theorem z5d {a : Nat} {th : List Nat} : y4m (.int (a : Int)) (thD th)=some (.bl (!th.contains a)):=by
 unfold y4m
 rw [y5c]
 rfl
theorem ix0 {c : Nat} {r : List Nat} : ixD (thD (c :: r)) (.int 0)=some (.int (c : Int)):=x0f (k:=0) (xs:=(c :: r).map nD) (by simp)
theorem tru_th {th : List Nat} : z5r (thD th)=some (!th.isEmpty):=by cases th <;> rfl
theorem y3c {α : Type} {enc : α->D} {c : DS->Option Bool} {f : DE} {δ : DS} (p : Nat->α->Bool) (g : Nat->α->D) : ∀ {xs : List α} {k : Nat},(∀ i (h : i < xs.length),c (δ ++ [some (.int ((k + i : Nat) : Int)),some (enc xs[i])])=some (p (k + i) xs[i]))->(∀ i (h : i < xs.length),p (k + i) xs[i]=true->f (δ ++ [some (.int ((k + i : Nat) : Int)),some (enc xs[i])])=some (g (k + i) xs[i])) →
  z1Z (two (z3T c f δ)) (z0u k (xs.map enc))=some (((xs.zipIdx k).filter fun z=>p z.2 z.1).map fun z=>g z.2 z.1)
 | [],_,_,_=>rfl
 | x :: r,k,hc,hf=>by
  have ih:=y3c (xs:=r) (k:=k + 1) p g (fun i h=>by
   have:=hc (i + 1) (by simpa using h)
   have e : k + 1 + i=k + (i + 1):=by omega
   rw [e]
   simpa using this) fun i h hp=>by
   have e : k + 1 + i=k + (i + 1):=by omega
   rw [e] at hp ⊢
   have:=hf (i + 1) (by simpa using h) (by simpa using hp)
   simpa using this
  show z1Z _ (.tup [.int (k : Nat),enc x] :: z0u (k + 1) (r.map enc))=_
  unfold z1Z
  rw [ih]
  have h0:=hc 0 (by simp)
  have h1:=hf 0 (by simp)
  simp only [Nat.add_zero,List.getElem_cons_zero] at h0 h1
  have e : two (z3T c f δ) (.tup [.int (k : Nat),enc x])=some (if p k x=true then some (g k x) else none):=by
   show z3T c f δ (.int (k : Nat)) (enc x)=_
   unfold z3T
   rw [h0]
   cases hp : p k x with
   | true=>
    have:=h1 hp
    show (if true=true then (f (δ ++ [some (.int (k : Nat)),some (enc x)])).map some else some none)=_
    rw [if_pos rfl,this]
    rfl
   | false=>rfl
  rw [e,di,bA]
  show some (y7X _ _)=_
  cases hp : p k x with
  | true=>rfl
  | false=>rfl
theorem y5i {α : Type} {enc : α->D} {c : DS->Option Bool} {f : DE} {δ : DS} (p : Nat->α->Bool) (g : Nat->α->D) {xs : List α} (hl : xs.length≤1000) (hc : ∀ i (h : i < xs.length),c (δ ++ [some (.int (i : Int)),some (enc xs[i])])=some (p i xs[i])) (hf : ∀ i (h : i < xs.length),p i xs[i]=true->f (δ ++ [some (.int (i : Int)),some (enc xs[i])])=some (g i xs[i])) :
  z2a (some (z0u 0 (xs.map enc))) (two (z3T c f δ))=some ((xs.zipIdx.filter fun z=>p z.2 z.1).map fun z=>g z.2 z.1):=by
 rw [z4Z (by rw [z6T,aq]; omega)]
 refine y3c p g (fun i h=>?_) fun i h hp=>?_
 ·rw [Nat.zero_add]; exact hc i h
 ·rw [Nat.zero_add] at hp ⊢; exact hf i h hp
theorem cx2_all {α : Type} {enc : α->D} {f : DE} {δ : DS} (g : Nat->α->D) {xs : List α} (hl : xs.length≤1000) (hf : ∀ i (h : i < xs.length),f (δ ++ [some (.int (i : Int)),some (enc xs[i])])=some (g i xs[i])) :
  z2a (some (z0u 0 (xs.map enc))) (two (z3T z5p f δ))=some (xs.zipIdx.map fun z=>g z.2 z.1):=by
 rw [y5i (fun _ _=>true) g hl (fun _ _=>rfl) fun i h _=>hf i h,bQ.mpr fun _ _=>rfl]
theorem y5N {th : List Nat} : z9K (thD th)=some (z0u 0 (th.map nD)):=(rfl)
theorem z9c {o : List Nat} {k : Nat} : y7K (some (thD o)) (some (some ((k : Int) + 1))) (some none)=some ((o.drop (k + 1)).map nD):=by
 show some (z8O (o.map nD) (some ((k : Int) + 1)) none)=_
 unfold z8O
 have e1 : HT.sIx (o.map nD).length (o.map nD).length none=(o.map nD).length:=rfl
 have e2 : HT.sIx (o.map nD).length 0 (some ((k : Int) + 1))=min (k + 1) (o.map nD).length:=by
  show (if ((k : Int) + 1) < 0 then (((k : Int) + 1) + ((o.map nD).length : Int)).toNat else min ((k : Int) + 1).toNat (o.map nD).length)=_
  rw [if_neg (by omega)]
  congr 1
 rw [e1,e2,cX]
 congr 1
 by_cases h : k + 1≤(o.map nD).length
 ·rw [cL h,bz (by simp)]
 ·rw [dA (by omega),bI (as:=o.map nD) (ar _),dR,bI (by omega)]
theorem z6j {a b : List Nat} (h : a.length + b.length≤1000000) : catO (some (thD a)) (some (thD b))=some ((a ++ b).map nD):=by
 show catO (some (.lst (a.map nD))) (some (.lst (b.map nD)))=_
 rw [eo_cat (by rw [aq,aq]; exact h),aP]
theorem z6l (o : List Nat) : D.lst (o.map nD)=thD o:=(rfl)
theorem y7a {j : Nat} : D.lst [.int (j : Int)]=thD [j]:=(rfl)
theorem z2U (o : List Nat) : z5H (some (o.map nD))=some (o.map nD):=z8j (z9r o)
theorem z3R : z5H (some [])=some []:=(rfl)
theorem y4o : D.lst []=thD []:=(rfl)
def movX (x : Option D) (i j : Nat) (s : SS) : Option Out:=match x with
 | some d=>some (.nx (((z0G j s).set j none).set i (some (.ow d))))
 | none=>none
theorem y9I {i j : Nat} {s : SS} : movO i j s=movX (owA j s) i j s:=by
 unfold movO owA movX
 generalize s[j]? = z
 rcases z with _ | _ | x
 ·rfl
 ·rfl
 ·cases x <;> rfl
theorem y9R {d : D} {i j : Nat} {s : SS} : movX (some d) i j s=some (.nx (((z0G j s).set j none).set i (some (.ow d)))):=(rfl)
theorem z5s {c : DS->Option Bool} {b : SS->Option Out} {QO : Out->Prop} (I : Nat->SS->Prop) : ∀ {n : Nat} {s : SS},I n s->(∀ n δ,I n δ->∃ k,c (z0v δ)=some k∧(k=false->QO (.nx δ))∧(k=true->∃ n',n=n' + 1∧hol (b δ) fun o=>match o with | .nx δ'=>I n' δ' | .ct δ'=>I n' δ' | .bk δ'=>QO (.nx δ') | .rt d=>QO (.rt d) | .rb d δ'=>QO (.rb d δ') | .ex e δ'=>QO (.ex e δ')))->∀ {f : Nat},n < f->hol (z4N c b f s) QO
 | n,s,h0,hs,0,hf=>absurd hf (by omega)
 | n,s,h0,hs,f + 1,hf=>by
  obtain ⟨k,ec,h1,h2⟩:=hs n s h0
  unfold z4N
  rw [ec]
  cases k with
  | false=>exact ⟨_,rfl,h1 rfl⟩
  | true=>
   obtain ⟨n',rfl,o,eb,q⟩:=h2 rfl
   show hol ((b s).bind _) QO
   rw [eb]
   cases o with
   | nx s1=>exact z5s I q hs (by omega)
   | ct s1=>exact z5s I q hs (by omega)
   | bk s1=>exact ⟨_,rfl,q⟩
   | rt d=>exact ⟨_,rfl,q⟩
   | rb d s1=>exact ⟨_,rfl,q⟩
   | ex e s1=>exact ⟨_,rfl,q⟩
theorem tru_nil : z5r (thD [])=some false:=(rfl)
theorem y6U {f : DE} {δ : DS} : y4c f δ=(f δ).bind revS:=(rfl)
theorem y1F {th : List Nat} : revS (thD th)=some (th.reverse.map nD):=by
 show some (th.map nD).reverse=_
 rw [dm]
theorem y8o {th : List Nat} (h : th≠[]) : ixD (thD th) (.int (-1))=some (.int ((th.getLast h : Nat) : Int)):=by
 have hl : 0 < th.length:=cr.mpr h
 show atI (th.map nD) (-1)=_
 unfold atI
 have e : ixN (th.map nD).length (-1)=some (th.length - 1):=by
  rw [aq]
  unfold ixN
  simp
  omega
 rw [e,List.getLast_eq_getElem]
 show (th.map nD)[th.length - 1]? = _
 rw [av (by simp; omega),ca]
 rfl
theorem y1T {o : List Nat} : y7K (some (thD o)) (some (some 1)) (some none)=some ((o.drop 1).map nD):=z9c (k:=0)
theorem y4V {o : List Nat} {k : Nat} : y7K (some (thD o)) (some (some (k : Int))) (some none)=some ((o.drop k).map nD):=by
 show some (z8O (o.map nD) (some (k : Int)) none)=_
 unfold z8O
 have e1 : HT.sIx (o.map nD).length (o.map nD).length none=(o.map nD).length:=rfl
 have e2 : HT.sIx (o.map nD).length 0 (some (k : Int))=min k (o.map nD).length:=by
  show (if (k : Int) < 0 then ((k : Int) + ((o.map nD).length : Int)).toNat else min (k : Int).toNat (o.map nD).length)=_
  rw [if_neg (by omega)]
  congr 1
 rw [e1,e2,cX]
 congr 1
 by_cases h : k≤(o.map nD).length
 ·rw [cL h,bz (by simp)]
 ·rw [dA (by omega),bI (as:=o.map nD) (ar _),dR,bI (by omega)]
theorem z2e {np nl : Nat} {b : SS->Option Out} {ds : List D} {d : D} (hl : ds.length=np) (h : hol (b (ds.map (fun d=>some (.sh d)) ++ ae nl none)) fun o=>o = .rt d) : z7t np nl b ds=some (.val d):=by
 unfold z7t
 rw [if_pos hl,hol_is.mp h]
theorem runX_nx {np nl : Nat} {b : SS->Option Out} {ds : List D} (hl : ds.length=np) (h : hol (b (ds.map (fun d=>some (.sh d)) ++ ae nl none)) fun o=>∃ s,o = .nx s) : z7t np nl b ds=some (.val .non):=by
 obtain ⟨_,e,s,rfl⟩:=h
 unfold z7t
 rw [if_pos hl,e]
theorem y0X {np nl : Nat} {b : SS->Option Out} {ds : List D} {c : Nat} (hl : ds.length=np) (h : hol (b (ds.map (fun d=>some (.sh d)) ++ ae nl none)) fun o=>∃ s,o = .ex c s) : z7t np nl b ds=some (.exc c):=by
 obtain ⟨_,e,s,rfl⟩:=h
 unfold z7t
 rw [if_pos hl,e]
def rsX (c : Nat) (x : Option D) (s : SS) : Option Out:=match x with
 | some _=>some (.ex c s)
 | none=>none
theorem y3l {c : Nat} {f : DE} {s : SS} : z5E c f s=rsX c (f (z0v s)) s:=by
 unfold z5E rsX
 generalize f (z0v s)=x
 cases x <;> rfl
theorem y2P {c : Nat} {d : D} {s : SS} : rsX c (some d) s=some (.ex c s):=(rfl)
theorem y2W {m : List D->Option XO} {fl : List DE} {δ : DS} : z1b m fl δ=(z0o fl δ).bind m:=(rfl)
theorem y3d {m : List D->Option XO} {fl : List DE} {δ : DS} : z1g m fl δ=valO ((z0o fl δ).bind m):=(rfl)
def repO (x y : Option D) : Option (List D):=x.bind fun a=>y.bind fun b=>repLs a b
theorem x0u {f g : DE} {δ : DS} : dRep f g δ=repO (f δ) (g δ):=(rfl)
theorem y5E {d : D} {n : Nat} (h : n≤1000000) : repO (some (.lst [d])) (some (.int (n : Int)))=some (ae n d):=by
 have e : ∀ k : Nat,(ae k [d]).flatten=ae k d:=fun k=>by
  induction k with
  | zero=>rfl
  | succ k ih=>rw [bf,bw,ih,bf]; rfl
 show (if (0≤(n : Int)∧(n : Int)≤1000000)∧[d].length * (n : Int).toNat≤sizeLine then some (ae (n : Int).toNat [d]).flatten else none)=_
 rw [if_pos ⟨⟨by omega,by omega⟩,z3u (by simp; exact h)⟩,dh,e]
def ixXO (o : Option XO) (y : Option D) : Option XO:=match o with
 | some (.val d)=>y.bind fun y=>(ixD d y).bind fun z=>if z.imm=true then some (.val z) else none
 | some (.exc c)=>some (.exc c)
 | none=>none
theorem x0x {F : DS->Option XO} {g : DE} {δ : DS} : dIxX F g δ=ixXO (F δ) (g δ):=by
 unfold dIxX ixXO
 cases F δ with
 | none=>rfl
 | some o=>cases o <;> rfl
theorem y2R {f g : DE} {δ : DS} : y6N f g δ=o2 mkD1 (f δ) (g δ):=ev_d2
theorem y7E {f g h : DE} {δ : DS} : y8h f g h δ=rngN (f δ) (g δ) (h δ):=(rfl)
theorem y4W {a b : Int} : mkD1 (.int a) (.int b)=some (.dct [.inl a] [.int b]):=(rfl)
theorem y4X {ds : List D} {i : Int} : ixL (.lst ds) (.int i)=atI ds i:=(rfl)
def forX2 (i j : Nat) (xs : Option (List D)) (b : SS->Option Out) (s : SS) : Option Out:=xs.bind fun ds=>z5G i j b ds s
theorem y2L {i j : Nat} {f : DS->Option (List D)} {g : SS->Option Out} {s : SS} : y8G i j f g s=forX2 i j (f (shV s)) g s:=(rfl)
theorem y5z {i j : Nat} {ds : List D} {b : SS->Option Out} {s : SS} : forX2 i j (some ds) b s=z5G i j b ds s:=(rfl)
theorem z8R {α : Type} {enc : α->D} {i j : Nat} {b : SS->Option Out} {QO : Out->Prop} {xs : List α} (I : List α->SS->Prop) (hs : ∀ pre x post,xs=pre ++ x :: post->∀ δ,I pre δ->hol (b ((δ.set i (some (.sh (.int ((pre.length : Nat) : Int))))).set j (some (.sh (enc x))))) fun o=>match o with | .nx δ'=>I (pre ++ [x]) δ' | .ct δ'=>I (pre ++ [x]) δ' | .bk δ'=>QO (.nx δ') | .rt d=>QO (.rt d) | .rb d δ'=>QO (.rb d δ') | .ex c δ'=>QO (.ex c δ')) (he : ∀ δ,I xs δ->QO (.nx δ)) :
  ∀ {post pre : List α} {s : SS},xs=pre ++ post->I pre s->hol (z5G i j b (z0u pre.length (post.map enc)) s) QO
 | [],pre,s,e,h=>⟨_,rfl,he s (by rw [e,aG]; exact h)⟩
 | x :: post,pre,s,e,h=>by
  obtain ⟨o,eo,q⟩:=hs pre x post e s h
  have e2 : z0u pre.length ((x :: post).map enc) = .tup [.int ((pre.length : Nat) : Int),enc x] :: z0u (pre ++ [x]).length (post.map enc):=by
   rw [aM,aH]
   rfl
  rw [e2]
  unfold z5G
  show hol ((b ((s.set i (some (.sh (.int ((pre.length : Nat) : Int))))).set j (some (.sh (enc x))))).bind _) QO
  rw [eo]
  have e3 : xs=(pre ++ [x]) ++ post:=by rw [e]; simp
  cases o with
  | nx s1=>exact z8R I hs he e3 q
  | ct s1=>exact z8R I hs he e3 q
  | bk s1=>exact ⟨_,rfl,q⟩
  | rt d=>exact ⟨_,rfl,q⟩
  | rb d s1=>exact ⟨_,rfl,q⟩
  | ex c s1=>exact ⟨_,rfl,q⟩
theorem y3Z {a : Nat} {r : List Nat} (h : (a :: r).Pairwise (· < ·)) : y4O [thD (a :: r)]=some (.int (a : Int)):=by
 have hp:=aQ.mp h
 have hb : ∀ k,k≤r.length->bst ((a :: r).map fun n=>((n : Nat) : Int)) k=0:=fun k=>by
  induction k with
  | zero=>exact fun _=>rfl
  | succ k ih=>
   intro hk
   unfold bst
   rw [ih (by omega)]
   refine if_neg ?_
   rw [decide_eq_true_iff,aM]
   show ¬ ((r.map fun n=>((n : Nat) : Int)).getD k 0 < (a : Int))
   rw [List.getD_eq_getElem?_getD,aN,av (by omega)]
   show ¬ (((r[k]'(by omega) : Nat) : Int) < (a : Int))
   have:=hp.1 _ (b9 (show k < r.length by omega))
   omega
 have e : (a :: r).map nD=((a :: r).map fun n=>((n : Nat) : Int)).map D.int:=by rw [bq]; rfl
 show ((z4p ((a :: r).map nD)).bind fun ns=>if ns.isEmpty=true then none else some (D.int (mnI ns)))=_
 have ii : ∀ ns : List Int,z4p (ns.map D.int)=some ns:=fun ns=>by
  induction ns with
  | nil=>rfl
  | cons n ns ih=>show (z4p (ns.map D.int)).map (fun r=>n :: r)=_; rw [ih]; rfl
 rw [e,ii,am,if_neg (by simp)]
 unfold mnI
 rw [aq,bb,Nat.add_sub_cancel,hb _ (ar _)]
 rfl
theorem x0T {d : D} : valO (some (.val d))=some d:=(rfl)
def xrO (x : Option XO) (s : SS) : Option Out:=match x with
 | some (.val d)=>some (.rt d)
 | some (.exc c)=>some (.ex c s)
 | none=>none
def xeO (x : Option XO) (s : SS) : Option Out:=match x with
 | some (.val _)=>some (.nx s)
 | some (.exc c)=>some (.ex c s)
 | none=>none
theorem y6G {F : DS->Option XO} {s : SS} : retX F s=xrO (F (z0v s)) s:=by
 unfold retX xrO
 generalize F (z0v s)=x
 rcases x with _ | _ | _ <;> rfl
theorem y2m {F : DS->Option XO} {s : SS} : y1r F s=xeO (F (z0v s)) s:=by
 unfold y1r xeO
 generalize F (z0v s)=x
 rcases x with _ | _ | _ <;> rfl
theorem x0l {d : D} {s : SS} : xrO (some (.val d)) s=some (.rt d):=(rfl)
theorem x0I {d : D} {s : SS} : xeO (some (.val d)) s=some (.nx s):=(rfl)
theorem x0F {c : Nat} {s : SS} : xeO (some (.exc c)) s=some (.ex c s):=(rfl)
theorem x0A {c : Nat} {s : SS} {b : SS->Option Out} : z9u (some (.ex c s)) b=some (.ex c s):=(rfl)
def tryX (x : Option Out) (gh : Nat->SS->Option Out) : Option Out:=match x with
 | some (.ex c s)=>gh c s
 | o=>o
theorem x0z {gb : SS->Option Out} {gh : Nat->SS->Option Out} {s : SS} : tryO gb gh s=tryX (gb s) gh:=by
 unfold tryO tryX
 generalize gb s=x
 rcases x with _ | x
 ·rfl
 ·cases x <;> rfl
theorem y9Z {c : Nat} {s : SS} {gh : Nat->SS->Option Out} : tryX (some (.ex c s)) gh=gh c s:=(rfl)
def unX (i : Nat) (x : Option Out) : Option Out:=match x with
 | some o=>unO i o
 | none=>none
theorem x0d {i : Nat} {x : Str} {g : SS->Option Out} {s : SS} : y5l i x g s=unX i (g (s.set i (some (.sh (.exc x))))):=by
 unfold y5l unX
 generalize g (s.set i (some (.sh (.exc x))))=z
 cases z <;> rfl
theorem x0n {i : Nat} {d : D} : unX i (some (.rt d))=some (.rt d):=(rfl)
theorem y6j {d : D} {r : SS} : y5x (some (.ow d) :: r) 0=some d:=(rfl)
theorem y7i {x : Option SD} {r : SS} {i : Nat} : y5x (x :: r) (i + 1)=y5x r i:=by
 unfold y5x
 rw [dX]
end L2
namespace L2
open PySem
theorem y3D {x : Option Out} {b : SS->Option Out} {I : SS->Prop} {d : D} (h : hol x fun o=>(∃ s,o = .nx s∧I s)∨o = .rt d) (k : ∀ s,I s->hol (b s) fun o=>o = .rt d) : hol (z9u x b) fun o=>o = .rt d:=by
 obtain ⟨o,rfl,q⟩:=h
 rcases q with ⟨s,rfl,q⟩ | rfl
 ·exact k s q
 ·exact ⟨_,rfl,rfl⟩
theorem y9h {α : Type} {enc : α->D} {xs : List α} {x : α} (hl : xs.length≤1000000) : m0V y4g (some (.lst (xs.map enc))) (some [enc x])=some (.lst ((xs ++ [x]).map enc)):=by
 show (if (xs.map enc).length < sizeLine then some (xs.map enc ++ [enc x]) else none).map D.lst=_
 rw [aq,if_pos (by rw [PySem.sizeLine_eq]; omega),aP]
 rfl
theorem z6L {ds : List D} {k : Nat} (hk : k≤ds.length) : z8O ds none (some (k : Int))=ds.take k:=by
 unfold z8O
 have e1 : HT.sIx ds.length 0 none=0:=rfl
 have e2 : HT.sIx ds.length ds.length (some (k : Int))=k:=by
  show (if (k : Int) < 0 then ((k : Int) + (ds.length : Int)).toNat else min (k : Int).toNat ds.length)=k
  rw [if_neg (by omega)]
  omega
 rw [e1,e2,List.drop_zero,Nat.sub_zero]
theorem z9l {ds : List D} {k : Nat} : z8O ds (some (k : Int)) none=ds.drop k:=by
 unfold z8O
 have e1 : HT.sIx ds.length 0 (some (k : Int))=min k ds.length:=by
  show (if (k : Int) < 0 then ((k : Int) + (ds.length : Int)).toNat else min (k : Int).toNat ds.length)=_
  rw [if_neg (by omega),dh]
 have e2 : HT.sIx ds.length ds.length none=ds.length:=rfl
 rw [e1,e2]
 by_cases h : k≤ds.length
 ·rw [cL h]
  exact bz (by rw [dv]; exact ar _)
 ·rw [dA (by omega),d9 (ar _),d9 (by omega),dR]
end L2
namespace L2
open PySem
def cM2 (F : List D->Option D) (a b : Option D) (cs : Option (List D)) : Option D:=a.bind fun a=>b.bind fun b=>cs.bind fun cs=>F (a :: b :: cs)
theorem z9v {F : List D->Option D} {f0 f1 : DE} {fl : List DE} {δ : DS} : z6O F f0 f1 fl δ=cM2 F (f0 δ) (f1 δ) (z0o fl δ):=(rfl)
theorem y9F {F : List D->Option D} {a b : D} {cs : List D} : cM2 F (some a) (some b) (some cs)=F (a :: b :: cs):=(rfl)
def r1O (x : Option D) : Option Out:=x.map fun d=>.rt (.lst [d])
theorem y4w {i : Nat} {s : SS} : ret1 i s=r1O (y5x s i):=(rfl)
theorem eo_r1 {d : D} : r1O (some d)=some (.rt (.lst [d])):=(rfl)
theorem y2N {np nl : Nat} {b : SS->Option Out} {du d0 : D} {ds : List D} {d : D} (hl : ds.length + 2=np) (h : hol (b (some (.sh du) :: some (.ow d0) :: ds.map (fun d=>some (.sh d)) ++ ae nl none)) fun o=>o = .rt d) : y0V np nl b (du :: d0 :: ds)=some d:=by
 obtain ⟨o,e,rfl⟩:=h
 show (if ds.length + 2=np then _ else none)=some d
 rw [if_pos hl]
 rw [e]
end L2
namespace L2
open PySem
def extDV (o x : Option D) : Option D:=match x,o with
 | some (.lst es),some (.lst ds)=>if z2z es=true∧ds.length + es.length≤sizeLine then some (.lst (ds ++ es)) else none
 | _,_=>none
theorem y2y {i : Nat} {f : DE} {s : SS} : y5Y i f s=z7I i (extDV (owA i s) (f (z0v s))) s:=by
 unfold y5Y owA
 cases f (z0v s) with
 | none=>rcases s[i]? with _ | _ | ⟨x | x | ⟨r,x⟩⟩ <;> rfl
 | some d=>
  cases d <;> rcases s[i]? with _ | _ | ⟨x | x | ⟨r,x⟩⟩ <;> (first | rfl | (cases x <;> (first | rfl | (show (if _ then _ else _)=z7I i (if _ then _ else _) s; split <;> rfl))))
theorem eo_extD {ds es : List D} (hi : z2z es=true) (h : ds.length + es.length≤1000000) : extDV (some (.lst ds)) (some (.lst es))=some (.lst (ds ++ es)):=if_pos ⟨hi,z3u h⟩
end L2
namespace L2
open PySem
end L2
namespace L2
open PySem
end L2
namespace L2
open PySem
end L2
namespace L2
open PySem
end L2
namespace L2
open PySem
section
variable {a : Addr} {m n k : Int} {es ls es' : List D} {r : List D} {d d0 o : D} {s : SS} {i j : Nat} {f : DE} {fl : List DE} {args : List D}
end
end L2
namespace L2
open PySem
section
variable {a : Addr} {m n m' n' : Int} {es ls es' ls' : List D} {ds : List D} {d d0 o x y : D} {s s' : SS} {i c np nl : Nat} {f f2 f3 : DE} {fl : List DE} {args : List D} {g h : SS->Option Out} {F : List D->Option BO} {G : DS->Option XO} {δ : DS}
end
end L2
namespace L2
open PySem
section
variable {a : Addr} {m n m' n' : Int} {es ls es' ls' xs ys : List D} {d d0 dw o x y : D} {s s' s2 : SS} {i j nl : Nat} {b c : Bool} {f : DE} {g h : SS->Option Out} {F : F3} {τ υ : SS->Option (Bool × SS)}
end
end L2
set_option maxHeartbeats 4000000
namespace Prg
open PySem PySem.Spec PyProof.Rows L2
def top (i : Nat) : Stmt:=PySem.Challenge.pw_askorder_k45_whole_all_orders.main.body.getD i (.Pass ⟨0,0,0,0⟩)
abbrev z2n : Stmt:=top 6
abbrev y1k : List Str:=["table", "one"]
abbrev z5i : List Str:=["table", "one"]
abbrev z2d : Stmt:=top 7
abbrev y1n : List Str:=["table", "one", "things"]
abbrev z5g : List Str:=["table", "one", "things"]
abbrev z1w : Stmt:=top 8
abbrev z8K : List Str:=["marks"]
abbrev z3L : List Str:=["marks"]
abbrev z2T : Stmt:=top 10
abbrev y3p : List Str:=["value", "many"]
abbrev z5O : List Str:=["value", "many"]
abbrev z0L : Stmt:=top 11
abbrev z5U : List Str:=["order", "many", "told", "thing"]
abbrev z2j : List Str:=["order", "many"]
abbrev z1v : Stmt:=top 13
abbrev z8f : List Str:=["order", "many"]
abbrev z2J : List Str:=["order", "many"]
abbrev z4D : Stmt:=top 15
abbrev y7R : List Str:=["table", "one", "other"]
abbrev z8u : List Str:=["table", "one", "other"]
abbrev z0U : Stmt:=top 16
abbrev z6U : List Str:=["table", "order", "standing", "thing"]
abbrev z1X : List Str:=["table", "order"]
abbrev z1k : Stmt:=top 17
abbrev z7G : List Str:=["table", "order", "chain", "thing"]
abbrev z2t : List Str:=["table", "order"]
abbrev z2O : Stmt:=top 19
abbrev y3v : List Str:=["table", "things"]
abbrev z5T : List Str:=["table", "things"]
abbrev z3r : Stmt:=top 20
abbrev y6l : List Str:=["table", "things"]
abbrev z6M : List Str:=["table", "things"]
abbrev z4z : Stmt:=top 21
abbrev y9r : List Str:=["table", "chain"]
abbrev z8o : List Str:=["table", "chain"]
abbrev z1x : Stmt:=top 23
abbrev z8T : List Str:=["table", "thing", "chains", "chain"]
abbrev z3P : List Str:=["table", "thing"]
abbrev z0R : Stmt:=top 24
abbrev z7M : List Str:=["table", "chain", "further", "chains", "thing"]
abbrev z2p : List Str:=["table", "chain", "further"]
abbrev z3t : Stmt:=top 26
abbrev y4M : List Str:=["table", "one"]
abbrev z6I : List Str:=["table", "one"]
abbrev z1K : Stmt:=top 27
abbrev y0t : List Str:=["table", "one", "steps", "edge", "further", "here", "other"]
abbrev z4d : List Str:=["table", "one"]
abbrev z5X : Stmt:=top 28
abbrev N_rings : List Str:=["table", "counts"]
abbrev y1u : List Str:=["table"]
abbrev z1y : Stmt:=top 29
abbrev z8I : List Str:=["counts", "wanted"]
abbrev z3C : List Str:=["counts", "wanted"]
abbrev z2S : Stmt:=top 30
abbrev y3t : List Str:=["table"]
abbrev z6d : List Str:=["table"]
abbrev z2M : Stmt:=top 31
abbrev y3N : List Str:=["table", "one", "from_the_top", "row", "ring"]
abbrev z4q : List Str:=["table", "one"]
abbrev z1N : Stmt:=top 32
abbrev y0z : List Str:=["circle", "one", "place"]
abbrev z4i : List Str:=["circle", "one"]
abbrev z2Q : Stmt:=top 33
abbrev y3y : List Str:=["table", "ring", "circle", "wider"]
abbrev z5I : List Str:=["table", "ring"]
abbrev z3z : Stmt:=top 34
abbrev y7u : List Str:=["table", "circle", "ring", "left", "place", "here", "behind", "between"]
abbrev z6Y : List Str:=["table", "circle", "ring"]
abbrev z4s : Stmt:=top 35
abbrev y9b : List Str:=["table", "here", "behind", "left", "one", "other"]
abbrev z8J : List Str:=["table", "here", "behind", "left"]
abbrev z2P : Stmt:=top 37
abbrev y3E : List Str:=["table", "thing", "top"]
abbrev z6a : List Str:=["table", "thing"]
abbrev z2L : Stmt:=top 38
abbrev y4a : List Str:=["table", "thing", "paper", "chain", "others"]
abbrev z5P : List Str:=["table", "thing"]
abbrev z3s : Stmt:=top 39
abbrev y6D : List Str:=["table", "thing", "top"]
abbrev z6Q : List Str:=["table", "thing"]
abbrev z4y : Stmt:=top 40
abbrev y8V : List Str:=["table", "kind", "order"]
abbrev z6H : List Str:=["table", "kind", "order"]
abbrev z2h : Stmt:=top 42
abbrev y1J : List Str:=["table", "kind", "thing"]
abbrev z3N : List Str:=["table", "kind", "thing"]
abbrev z2k : Stmt:=top 43
abbrev y0K : List Str:=["table", "kind", "papers"]
abbrev z3I : List Str:=["table", "kind"]
abbrev z1J : Stmt:=top 44
abbrev y0h : List Str:=["table", "kind"]
abbrev z3c : List Str:=["table", "kind"]
abbrev z1j : Stmt:=top 46
abbrev z7E : List Str:=["script", "k"]
abbrev z3n : List Str:=["script", "k"]
abbrev z1Q : Stmt:=top 47
abbrev z9n : List Str:=["found"]
abbrev z4o : List Str:=["found"]
abbrev z1O : Stmt:=top 48
abbrev z9Y : List Str:=["script", "many", "seed", "table", "pairs", "a", "b", "bits", "p", "k"]
abbrev z4b : List Str:=["script", "many"]
abbrev z2m : Stmt:=top 49
abbrev y1e : List Str:=["table"]
abbrev z4T : List Str:=["table"]
abbrev z1P : Stmt:=top 50
abbrev z9x : List Str:=["table", "order", "standing", "one"]
abbrev z4a : List Str:=["table", "order"]
abbrev z1R : Stmt:=top 51
abbrev z9J : List Str:=["table", "order", "chain", "one"]
abbrev z4l : List Str:=["table", "order"]
abbrev z2l : Stmt:=top 52
abbrev y1L : List Str:=["table", "order", "end", "one"]
abbrev z4P : List Str:=["table", "order"]
abbrev z2K : Stmt:=top 53
abbrev y3B : List Str:=["table", "kind", "order"]
abbrev z5W : List Str:=["table", "kind", "order"]
abbrev z1u : Stmt:=top 54
abbrev z8y : List Str:=["many", "found", "one", "longer", "order", "at"]
abbrev z3D : List Str:=["many"]
abbrev z1i : Stmt:=top 55
abbrev z7C : List Str:=["table", "word", "e"]
abbrev z3m : List Str:=["table", "word"]
abbrev z8X : Stmt:=top 56
abbrev N_law : List Str:=["script", "many", "table", "handed", "orders", "kind", "ends", "found", "one", "word"]
abbrev P_law : List Str:=["script"]
theorem nd0 : (["table", "one", "things", "other"] : List Str).Nodup:=by decide +kernel
theorem nd1 : (["marks", "place", "mark"] : List Str).Nodup:=by decide +kernel
theorem nd2 : (["table", "things", "place", "one"] : List Str).Nodup:=by decide +kernel
theorem nd3 : (["table", "things", "one"] : List Str).Nodup:=by decide +kernel
theorem nd4 : (["table", "chain", "further", "chains", "thing", "other"] : List Str).Nodup:=by decide +kernel
theorem nd5 : (["table", "thing", "chains", "3", "chain"] : List Str).Nodup:=by decide +kernel
theorem nd6 : (["counts", "wanted", "place", "count"] : List Str).Nodup:=by decide +kernel
theorem nd7 : (["table", "counts", "count"] : List Str).Nodup:=by decide +kernel
theorem nd8 : (["table", "counts", "one"] : List Str).Nodup:=by decide +kernel
theorem nd9 : (["table", "circle", "ring", "left", "place", "here", "behind", "between", "thing"] : List Str).Nodup:=by decide +kernel
theorem nd10 : (["table", "thing", "paper", "chain", "others", "other"] : List Str).Nodup:=by decide +kernel
theorem nd11 : (["table", "kind", "papers", "paper"] : List Str).Nodup:=by decide +kernel
theorem nd12 : (["table", "kind", "papers", "thing"] : List Str).Nodup:=by decide +kernel
theorem nd13 : (["table", "kind", "thing", "order"] : List Str).Nodup:=by decide +kernel
theorem nd14 : (["script", "many", "seed", "table", "pairs", "a", "b", "bits", "p", "9", "k"] : List Str).Nodup:=by decide +kernel
theorem nd15 : (["table", "row"] : List Str).Nodup:=by decide +kernel
theorem nd16 : (["table", "order", "chain", "one", "other"] : List Str).Nodup:=by decide +kernel
theorem nd17 : (["script", "many", "table", "handed", "orders", "kind", "ends", "found", "8", "word", "one"] : List Str).Nodup:=by decide +kernel
theorem nd18 : (["script", "many", "table", "handed", "orders", "kind", "ends", "found", "one", "word", "order"] : List Str).Nodup:=by decide +kernel
def z4U : SS->Option Out:=(z4k (z0k allF [(mkL (z1U (z5F (z0c 2)) z5p (d2 ixD (d2 ixD (z0c 0) (z0c 1)) (z0c 3))))]))
def z0Q : List D->Option D:=z3e 3 0 z4U
def z3O : SS->Option Out:=(z7u (z0C (z4j (z7F (z0c 0)) (z0I (z0c 2)) (z0c 1))))
def z1Y : List D->Option D:=z3e 1 0 z3O
def z4Y : SS->Option Out:=(z7u (z0k z1Y [(d2 ixD (z0c 0) (z0c 1))]))
def z1n : List D->Option D:=z3e 2 0 z4Y
def z5L : SS->Option Out:=(z4k (y7O (dIs "int" (z0c 0)) (y7O (d1 uNot (dIs "bool" (z0c 0))) (z7Z leI ltI (dC (.int 0)) (z0c 0) (z0c 1)))))
def z3w : List D->Option D:=z3e 2 0 z5L
def z2b : SS->Option Out:=(z0J (ifO (z0F (d2 neD (z0k z3v [(z0c 0)]) (z0c 1))) (z4k (dC (.bl false))) z1a)
 (z0J (z7z 2 (dC (.dct [] [])))
 (z0J (z5j 3 (z5F (z0c 0)) (z0J (ifO (y7Q (z6p (z0I (z0k z3w [(z0c 3),(z0c 1)]))) (y8C (z0c 3) (z0c 2))) (z4k (dC (.bl false))) z1a)
 (dput 2 (z0c 3) (dC (.bl true)))))
 (z4k (dC (.bl true))))))
def z0X : List D->Option D:=z3e 2 2 z2b
def z3G : SS->Option Out:=(ifO (y7Q (z0F (d2 eqD (z0c 1) (dC (.int 0)))) (z6p (z0I (z0k z0X [(z0c 0),(z0c 1)])))) (z5E 1 (dC (.str "the order does not tell each thing once and nothing else"))) z1a)
def z1c : List D->Option XO:=z7t 2 0 z3G
def z9d : SS->Option Out:=(z4k (dIf (z0I (d2 ixD (d2 ixD (z0c 0) (z0c 2)) (z0c 1))) (z0c 2) (z0c 1)))
def z5C : List D->Option D:=z3e 3 0 z9d
def z2Y : SS->Option Out:=(z0J (y1r (z1b z1c [(z0c 1),(z0k z3v [(z0c 0)])]))
 (z0J (z9g 2 (d2 ixD (z0c 1) (dC (.int 0))))
 (z0J (z5j 3 (z5F (mkL (y2z (z0c 1) (z6b (dC (.int 1))) z2C))) (z7z 2 (z0k z5C [(z0c 0),(z0c 2),(z0c 3)])))
 (z4k (z0c 2)))))
def z0Z : List D->Option XO:=z7t 2 2 z2Y
def z3o : SS->Option Out:=(z0J (y1r (z1b z1c [(z0c 1),(z0k z3v [(z0c 0)])]))
 (z0J (z7z 2 (z0C (z0o [])))
 (z0J (z5j 3 (y4c (z0c 1)) (ifO (z0I (z0k z0Q [(z0c 0),(z0c 3),(z0c 2)])) (z7z 2 (z0C (y4l (mkL (z0o [(z0c 3)])) (z0c 2)))) z1a))
 (y7M 2))))
def z1C : List D->Option XO:=z7t 2 2 z3o
def z4r : SS->Option Out:=(z0J (ifO (z0F (d2 eqD (z0k z3v [(z0c 1)]) (dC (.int 0)))) (z4k (dC (.bl false))) z1a)
 (z4k (z0k allF [(mkL (z4j (z7F (z0c 1)) z5p (z0k z0Q [(z0c 0),(z0c 3),(mkL (y2z (z0c 1) (z6b (d2 y4n (z0c 2) (dC (.int 1)))) z2C))])))])))
def z3p : List D->Option D:=z3e 2 0 z4r
def z7o : SS->Option Out:=(z7u (z0C (z1U (z2G (z0k z3v [(z0c 0)])) (z0I (z0k z0Q [(z0c 0),(z0c 2),(z0c 1)])) (z0c 2))))
def z2w : List D->Option D:=z3e 2 0 z7o
def z8M : SS->Option Out:=(z4k (y7O (z0k z3p [(z0c 0),(z0c 1)]) (d2 eqD (z0k z3v [(z0k z2w [(z0c 0),(z0c 1)])]) (dC (.int 0)))))
def z4A : List D->Option D:=z3e 2 0 z8M
def z2o (mR : List D->Option D) : SS->Option Out:=(z0J (ifO (z6p (z0I (z0c 2))) (ret1 1) z1a)
 (z0J (z7z 3 (z0C (z0o [])))
 (z0J (z5j 4 (z5F (z0c 2)) (y4P 3 (z6O mR (z0c 0) (z0C (y4l (z0c 1) (mkL (z0o [(z0c 4)])))) [(mkL (z1U (z5F (z0c 2)) (z0I (d2 ixD (d2 ixD (z0c 0) (z0c 4)) (z0c 5))) (z0c 5)))])))
 (y7M 3))))
def z1o : Nat->List D->Option D
 | 0=>y0V 3 2 fun _=>none
 | n + 1=>y0V 3 2 (z2o (z1o n))
def z1D : List D->Option D:=z1o 12
def z3M : SS->Option Out:=(z0J (z5k 2 (z6O z1D (z0c 0) (z0C (z0o [(z0c 1)])) [(z0k z1n [(z0c 0),(z0c 1)])]))
 (z0J (z5j 3 (z5F (z0c 2)) (ifO (z0I (z0k z4A [(z0c 0),(z0c 3)])) (z7X (mkT (z0o [(dC (.str "chain")),(z0c 3)]))) z1a))
 (z7X (mkT (z0o [(dC (.str "beaten")),(mkL (z1U (z5F (z0c 2)) z5p (mkT (z0o [(z0c 4),(d2 ixD (z0k z2w [(z0c 0),(z0c 4)]) (dC (.int 0)))]))))])))))
def z1W : List D->Option D:=z3e 2 2 z3M
def z3X : SS->Option Out:=(z0J (z7z 2 (y6N (z0c 1) (z0c 1)))
 (z0J (z7z 3 (z0C (z0o [(z0c 1)])))
 (z0J (z4N (z0I (z0c 3)) (z0J (z7z 4 (z0C (z0o [])))
 (z0J (frzO 3 (z5j 5 (z5F (z0c 3)) (z5j 6 (z5F (z0k z1n [(z0c 0),(z0c 5)])) (ifO (y8c (z0c 6) (z0c 2)) (z0J (dput 2 (z0c 6) (z0c 5))
 (m0 4 y4g [(z0c 6)])) z1a))))
 (movO 3 4))) 100)
 (y7M 2))))
def z2A : List D->Option D:=z3e 2 5 z3X
def z6N : SS->Option Out:=(z7u (z0C (z1V z9D [(z0k z2A [(z0c 0),(z0c 1)])])))
def z3y : List D->Option D:=z3e 2 0 z6N
def z3F : SS->Option Out:=(z7u (z0C (z4j (z7F (z0c 0)) (z0F (d2 eqD (z0c 3) (z0c 1))) (z0c 2))))
def z1z : List D->Option D:=z3e 2 0 z3F
def y1b : SS->Option Out:=(z0J (z7z 1 (z0C (z1U (z2G (z0k z3v [(z0c 0)])) z5p (z0k z3v [(z0k z3y [(z0c 0),(z0c 2)])]))))
 (z7u (mkL (z1U (y8h (z0k z3v [(z0c 0)]) (dC (.int 0)) (d1 y8U (dC (.int 1)))) (z0F (d2 inD (z0c 2) (z0c 1))) (z0k z1z [(z0c 1),(z0c 2)])))))
def z5a : List D->Option D:=z3e 1 1 y1b
def z5R : SS->Option Out:=(z7u (d2 ixL (z0k z5a [(z0c 0)]) (dC (.int 0))))
def z2g : List D->Option D:=z3e 1 0 z5R
def z3Y : SS->Option Out:=(z0J (z9g 2 (d2 lixF (z0c 0) (z0c 1)))
 (z7u (z0C (y4l (mkL (y2z (z0c 0) (z6b (z0c 2)) z2C)) (mkL (y2z (z0c 0) z2C (z6b (z0c 2))))))))
def z2y : List D->Option D:=z3e 2 1 z3Y
def z8F : SS->Option Out:=(z0J (z5j 4 (z5F (z0c 3)) (ifO (z8Q (z0I (d2 ixD (d2 ixD (z0c 0) (z0c 1)) (z0c 4))) (z0I (d2 ixD (d2 ixD (z0c 0) (z0c 4)) (z0c 2)))) (z7u (z0C (z0o [(z0c 4)]))) z1a))
 (z0J (z5j 4 (z5F (z0c 3)) (z5j 5 (z5F (z0c 3)) (ifO (z8Q (z0I (d2 ixD (d2 ixD (z0c 0) (z0c 1)) (z0c 4))) (z8Q (z0I (d2 ixD (d2 ixD (z0c 0) (z0c 4)) (z0c 5))) (z0I (d2 ixD (d2 ixD (z0c 0) (z0c 5)) (z0c 2))))) (z7u (z0C (z0o [(z0c 4),(z0c 5)]))) z1a)))
 (z7u (z0C (z0o [])))))
def z4t : List D->Option D:=z3e 4 2 z8F
def z7b : SS->Option Out:=(z0J (z5k 3 (mkL (z1U (z5F (z0c 2)) (z0F (d2 y4m (z0c 8) (z0c 1))) (z0c 8))))
 (z0J (y8G 4 5 (z7F (z0c 1)) (z0J (z9g 6 (d2 ixD (z0c 1) (d2 z6i (d2 y4n (z0c 4) (dC (.int 1))) (z0k z3v [(z0c 1)]))))
 (z0J (z5k 7 (z0k z4t [(z0c 0),(z0c 5),(z0c 6),(z0c 3)]))
 (ifO (z0I (z0c 7)) (z7X (mkL (y4l (mkL (y4l (mkL (y2z (z0c 1) z2C (z6b (d2 y4n (z0c 4) (dC (.int 1)))))) (z0c 7))) (mkL (y2z (z0c 1) (z6b (d2 y4n (z0c 4) (dC (.int 1)))) z2C))))) z1a))))
 (z7X (z0c 1))))
def z2X : List D->Option D:=z3e 3 5 z7b
def z6f : SS->Option Out:=(z0J (z5k 2 (mkL (z0o [(z0k y4O [(z0c 1)])])))
 (z0J (z5k 3 (z0k z2X [(z0c 0),(z0c 2),(z0c 1)]))
 (z0J (z4N (z0F (d2 gtI (z0k z3v [(z0c 3)]) (z0k z3v [(z0c 2)]))) (z0J (z5k 2 (z0c 3))
 (z5k 3 (z0k z2X [(z0c 0),(z0c 2),(z0c 1)]))) 100)
 (z7X (z0c 2)))))
def z2f : List D->Option D:=z3e 2 2 z6f
def z5S : SS->Option Out:=(z0J (z5k 2 (z0k z5a [(z0c 0)]))
 (z0J (ifO (z0F (d2 y4m (z0c 1) (d2 ixD (z0c 2) (dC (.int 0))))) (z5E 2 (dC (.str "the thing does not lie in the top ring"))) z1a)
 (z0J (z7z 3 (z0k z2y [(z0k z2f [(z0c 0),(d2 ixD (z0c 2) (dC (.int 0)))]),(z0c 1)]))
 (z0J (z5j 4 (z5F (mkL (y2z (z0c 2) (z6b (dC (.int 1))) z2C))) (y5Y 3 (z0k z2f [(z0c 0),(z0c 4)])))
 (y7M 3)))))
def z1T : List D->Option XO:=z7t 2 3 z5S
def z4C : SS->Option Out:=(z0J (z5k 2 (z0k z2g [(z0c 0)]))
 (z0J (ifO (z0F (d2 y4m (z0c 1) (z0c 2))) (z7X (mkT (z0o [(dC (.str "shut")),(z0c 2)]))) z1a)
 (z7X (mkT (z0o [(dC (.str "order")),(mkL (z1V y8e [(z1g z1T [(z0c 0),(z0c 1)])]))])))))
def z2N : List D->Option D:=z3e 2 1 z4C
def z4B : SS->Option Out:=(z0J (z5k 2 (z0k z1W [(z0c 0),(z0c 1)]))
 (z0J (ifO (z0F (d2 eqD (d2 ixD (z0c 2) (dC (.int 0))) (dC (.str "beaten")))) (z7X (z0c 2)) z1a)
 (z0J (z5k 3 (d2 ixD (z0c 2) (dC (.int 1))))
 (z0J (z5k 4 (mkL (z1U (z2G (z0k z3v [(z0c 0)])) (z0F (d2 y4m (z0c 5) (z0c 3))) (z0c 5))))
 (z7X (mkT (z0o [(dC (.str "order")),(mkL (y4l (z0c 4) (z0c 3))),(z0c 3)])))))))
def z2R : List D->Option D:=z3e 2 3 z4B
def z5v : SS->Option Out:=(z0J (z5k 2 (z0k z2g [(z0c 0)]))
 (z0J (ifO (z0F (d2 y4m (z0c 1) (z0c 2))) (z7X (mkT (z0o [(dC (.str "shut")),(z0c 2)]))) z1a)
 (z7X (mkT (z0o [(dC (.str "order")),(z1g z1T [(z0c 0),(z0c 1)])])))))
def z3A : List D->Option D:=z3e 2 1 z5v
def z5x : SS->Option Out:=(z0J (ifO (z0F (d2 eqD (z0c 1) (dC (.str "plain")))) (retX (z1b z0Z [(z0c 0),(z0c 2)])) z1a)
 (z0J (ifO (z0F (d2 eqD (z0c 1) (dC (.str "ahead")))) (retX (dIxX (z1b z1C [(z0c 0),(z0c 2)]) (dC (.int 0)))) z1a)
 (z0J (ifO (z0F (d2 eqD (z0c 1) (dC (.str "rest")))) (retX (z1b z0Z [(z0c 0),(mkL (z1V y8e [(z0c 2)]))])) z1a)
 (z5E 3 (dC (.str "there is no such kind"))))))
def z1G : List D->Option XO:=z7t 3 0 z5x
def z1d : SS->Option Out:=(z0J (ifO (z0F (d2 eqD (z0c 1) (dC (.str "plain")))) (z7X (z0k z2N [(z0c 0),(z0c 2)])) z1a)
 (z0J (ifO (z0F (d2 eqD (z0c 1) (dC (.str "ahead")))) (z7X (z0k z2R [(z0c 0),(z0c 2)])) z1a)
 (z0J (ifO (z0F (d2 eqD (z0c 1) (dC (.str "rest")))) (z7X (z0k z3A [(z0c 0),(z0c 2)])) z1a)
 (z5E 3 (dC (.str "there is no such kind"))))))
def z0j : List D->Option XO:=z7t 3 0 z1d
def z3B : SS->Option Out:=(z0J (x0P (z5k 2 (mkL (z1U (z2G (z0k z3v [(z0c 0)])) z5p (z1g z0j [(z0c 0),(z0c 1),(z0c 3)])))) (exc1 (z2G (z0k z3v [(z0c 0)])) (z1b z0j [(z0c 0),(z0c 1),(z0c 3)])))
 (z7X (mkL (z1U (z5F (z0c 2)) z5p (dIf (z0F (d2 eqD (d2 ixD (z0c 3) (dC (.int 0))) (dC (.str "order")))) (d2 ixD (z0c 3) (dC (.int 1))) (dC .non))))))
def z0B : List D->Option XO:=z7t 2 1 z3B
def z3i : SS->Option Out:=(x0P (z7u (z0C (z4j (z7F (z1g z0B [(z0c 0),(z0c 1)])) (y1A (z0c 3)) (z0c 2)))) (excO (z1b z0B [(z0c 0),(z0c 1)])))
def z0O : List D->Option XO:=z7t 2 0 z3i
def z2u : SS->Option Out:=(z0J (ifO (z0F (d2 ltI (z0c 1) (z0k z3v [(z0c 0)]))) (z4k (d2 ixD (z0c 0) (z0c 1))) z1a)
 (z4k (dC (.int 0))))
def z0p : List D->Option D:=z3e 2 0 z2u
def z4g : SS->Option Out:=(z4k (y7O (dIs "int" (z0c 0)) (d1 uNot (dIs "bool" (z0c 0)))))
def z1L : List D->Option D:=z3e 1 0 z4g
def z3U : SS->Option Out:=(z0J (z9g 2 (d2 z6i (z0k z0p [(z0c 0),(dC (.int 1))]) (dC (.int 1000003))))
 (z0J (z7z 3 (mkL (z1U (z2G (z0c 1)) z5p (z0C (dRep (mkL (z0o [(dC (.bl false))])) (z0c 1))))))
 (z0J (z7z 4 (z0C (z0o [])))
 (z0J (z5j 5 (z2G (z0c 1)) (z5j 6 (z2G (z0c 5)) (m0 4 y4g [(mkT (z0o [(z0c 5),(z0c 6)]))])))
 (z0J (z7z 7 (z0C (dRep (mkL (z0o [(dC (.int 0))])) (z0k z3v [(z0c 4)]))))
 (z0J (frzO 4 (z5j 8 (z2G (z0k z3v [(z0c 4)])) (ifO (z0F (d2 gtI (d2 z6i (z0c 2) (dC (.int 3))) (dC (.int 0)))) (st0 7 (z0c 8) (d2 z6i (d2 divI (d2 z6i (d2 x0J (z0c 2) (d2 y4n (dC (.int 48271)) (d2 x0J (d2 x0J (dC (.int 7919)) (z0c 8)) (z0c 8)))) (dC (.int 2147483647))) (dC (.int 1024))) (dC (.int 2)))) z1a)))
 (z0J (z5j 9 (y8s (dC (.int 3)) (z0k z3v [(z0c 0)])) (ifO (z0F (d2 gtI (z0k z3v [(z0c 4)]) (dC (.int 0)))) (st0 7 (d2 z6i (z0c 9) (z0k z3v [(z0c 4)])) (d2 z6i (d2 y4n (d2 ixD (z0c 7) (d2 z6i (z0c 9) (z0k z3v [(z0c 4)]))) (d2 ixD (z0c 0) (z0c 9))) (dC (.int 2)))) z1a))
 (z0J (z5j 8 (z2G (z0k z3v [(z0c 4)])) (z0J (st1 3 (d2 ixD (d2 ixD (z0c 4) (z0c 8)) (dC (.int 0))) (d2 ixD (d2 ixD (z0c 4) (z0c 8)) (dC (.int 1))) (d2 eqD (d2 ixD (z0c 7) (z0c 8)) (dC (.int 1))))
 (st1 3 (d2 ixD (d2 ixD (z0c 4) (z0c 8)) (dC (.int 1))) (d2 ixD (d2 ixD (z0c 4) (z0c 8)) (dC (.int 0))) (d2 eqD (d2 ixD (z0c 7) (z0c 8)) (dC (.int 0))))))
 (y7M 3)))))))))
def z1M : List D->Option D:=z3e 2 8 z3U
def z4X : SS->Option Out:=(z7u (mkL (z1U (z5F (z0c 0)) z5p (z0C (z1V z6n [(z0c 1)])))))
def z2i : List D->Option D:=z3e 1 0 z4X
def z3V : SS->Option Out:=(z0J (z9g 2 (d2 ixD (z0c 1) (dC (.int 0))))
 (z0J (z5j 3 (z5F (mkL (y2z (z0c 1) (z6b (dC (.int 1))) z2C))) (ifO (z0I (d2 ixD (d2 ixD (z0c 0) (z0c 3)) (z0c 2))) (z9g 2 (z0c 3)) z1a))
 (z4k (z0c 2))))
def z2B : List D->Option D:=z3e 2 2 z3V
def z4f : SS->Option Out:=(z0J (z7z 2 (z0C (z0o [])))
 (z0J (z5j 3 (y4c (z0c 1)) (ifO (z0F (d2 eqD (z0k z3v [(mkL (z1U (z5F (z0c 2)) (z6p (z0I (d2 ixD (d2 ixD (z0c 0) (z0c 3)) (z0c 4)))) (z0c 4)))]) (dC (.int 0)))) (m0 2 insF [(dC (.int 0)),(z0c 3)]) z1a))
 (y7M 2)))
def z2x : List D->Option D:=z3e 2 2 z4f
def z5b : SS->Option Out:=(z0J (z9g 2 (d2 ixD (z0c 1) (d1 y8U (dC (.int 1)))))
 (z0J (z5j 3 (y4c (z0c 1)) (ifO (z0I (d2 ixD (d2 ixD (z0c 0) (z0c 3)) (z0c 2))) (z9g 2 (z0c 3)) z1a))
 (z4k (z0c 2))))
def z2W : List D->Option D:=z3e 2 2 z5b
def z3q : SS->Option Out:=(z0J (ifO (z0F (d2 eqD (z0c 1) (dC (.str "plain")))) (z7u (z0k z2B [(z0c 0),(z0c 2)])) z1a)
 (z0J (ifO (z0F (d2 eqD (z0c 1) (dC (.str "ahead")))) (z4k (d2 ixD (z0k z2x [(z0c 0),(z0c 2)]) (dC (.int 0)))) z1a)
 (z7u (z0k z2W [(z0c 0),(z0c 2)]))))
def z0W : List D->Option D:=z3e 3 0 z3q
def z3K : SS->Option Out:=(z0J (frzO 3 (z5k 1 (mkL (z0o [(z0C (z0o []))]))))
 (z0J (z5j 2 (z2G (z0c 0)) (z0J (z7z 3 (z0C (z0o [])))
 (z0J (z5j 4 (z5F (z0c 1)) (z5j 5 (z2G (d2 y4n (z0k z3v [(z0c 4)]) (dC (.int 1)))) (y4Q 3 (z0C (y4l (mkL (y4l (mkL (y2z (z0c 4) z2C (z6b (z0c 5)))) (mkL (z0o [(z0c 2)])))) (mkL (y2z (z0c 4) (z6b (z0c 5)) z2C)))))))
 (frzO 3 (z5k 1 (z0c 3))))))
 (z7X (z0c 1))))
def z1A : List D->Option D:=z3e 1 5 z3K
def z3k : SS->Option Out:=(z0J (tryO (y1r (z1b z0O [(z0c 0),(z0c 1)])) (fun c=>match c with | 0=>fun _=>none | 1=>(y5l 2 "BadOrder" (z4k (d1 (y7P ["Unknown"] ["BadOrder", "NotTop", "Unknown"]) (z0c 2)))) | 2=>(y5l 2 "NotTop" (z4k (d1 (y7P ["Unknown"] ["BadOrder", "NotTop", "Unknown"]) (z0c 2)))) | 3=>(y5l 2 "Unknown" (z4k (d1 (y7P ["Unknown"] ["BadOrder", "NotTop", "Unknown"]) (z0c 2)))) | _ + 4=>fun _=>none))
 (z4k (dC (.bl false))))
def z1h : List D->Option D:=z3e 2 1 z3k
def g_law : SS->Option Out:=(z0J (z9g 1 (d2 y4n (dC (.int 1)) (d2 z6i (z0k z0p [(z0c 0),(dC (.int 0))]) (dC (.int 4)))))
 (z0J (ifO (z0F (d2 eqD (d2 z6i (d2 divI (z0k z0p [(z0c 0),(dC (.int 0))]) (dC (.int 4))) (dC (.int 3))) (dC (.int 1)))) (z9g 1 (dC (.int 5))) z1a)
 (z0J (z5k 2 (z0k z1M [(z0c 0),(z0c 1)]))
 (z0J (z5k 3 (z0k z2i [(z0c 2)]))
 (z0J (z5k 4 (z0k z1A [(z0c 1)]))
 (z0J (z5j 5 (z5F (mkL (z0o [(dC (.str "plain")),(dC (.str "ahead")),(dC (.str "rest"))]))) (z0J (z7z 6 (mkL (z1U (z5F (z0c 4)) z5p (z0k z0W [(z0c 2),(z0c 5),(z0c 10)]))))
 (z0J (z5k 7 (z1g z0O [(z0c 3),(z0c 5)]))
 (z0J (ifO (y7Q (z6p (z0I (dIs "list" (z0c 7)))) (z0F (d2 neD (z0c 7) (mkL (z1U (z2G (z0c 1)) (z0F (d2 inD (z0c 10) (z0c 6))) (z0c 10)))))) (z4k (dC (.bl false))) z1a)
 (z0J (z5j 8 (z5F (z0c 7)) (ifO (z6p (z0I (z0k z1L [(z0c 8)]))) (z4k (dC (.bl false))) z1a))
 (ifO (y7Q (z0F (d2 neD (z1g z1G [(z0c 3),(z0c 5),(mkL (z1V z6n [(d2 ixD (z0c 4) (dC (.int 0)))]))]) (d2 ixD (z0c 6) (dC (.int 0))))) (z0F (d2 neD (z1g z1G [(z0c 3),(z0c 5),(mkL (z1V z6n [(d2 ixD (z0c 4) (d1 y8U (dC (.int 1))))]))]) (d2 ixD (z0c 6) (d1 y8U (dC (.int 1))))))) (z4k (dC (.bl false))) z1a))))))
 (z0J (z9g 9 (d2 ixD (mkL (z0o [(dC (.str "")),(dC (.str "Plain")),(dC (.str "aheads")),(dC (.str "rest ")),(dC (.str "left")),(dC (.str "chair"))])) (d2 z6i (z0k z0p [(z0c 0),(dC (.int 2))]) (dC (.int 6)))))
 (z4k (y7O (z0k z1h [(z0c 3),(z0c 9)]) (d2 eqD (z0c 3) (z0c 2)))))))))))
def y4j : List D->Option D:=z3e 1 9 g_law
structure Txt (mg : Str->Option Value) : Prop where
 b_all : mg "all" = none
 b_enumerate : mg "enumerate" = none
 b_int : mg "int" = none
 b_isinstance : mg "isinstance" = none
 b_bool : mg "bool" = none
 b_len : mg "len" = none
 b_reversed : mg "reversed" = none
 b_range : mg "range" = none
 b_sorted : mg "sorted" = none
 b_min : mg "min" = none
 b_list : mg "list" = none
structure Cls (K : aa) (mg : Str->Option Value) (base : Heap) (cl : Nat->Value) : Prop where
 o_AskError : ∃ C,cl 0 = .ref C∧OwnCls "AskError" C y9i "ValueError.__new__" mg base∧ag K mainGlobals "AskError" = some (some (.ref C))∧z5e K C=true
 o_BadOrder : ∃ C,cl 1 = .ref C∧OwnCls "BadOrder" C y9i "ValueError.__new__" mg base∧ag K mainGlobals "BadOrder" = some (some (.ref C))∧z5e K C=true
 o_NotTop : ∃ C,cl 2 = .ref C∧OwnCls "NotTop" C y9i "ValueError.__new__" mg base∧ag K mainGlobals "NotTop" = some (some (.ref C))∧z5e K C=true
 o_Unknown : ∃ C,cl 3 = .ref C∧OwnCls "Unknown" C y9i "ValueError.__new__" mg base∧ag K mainGlobals "Unknown" = some (some (.ref C))∧z5e K C=true
 e_BadOrder_AskError : ∀ C,cl 0 = .ref C->bF K (cl 1) (.ref C)=some true
 e_NotTop_AskError : ∀ C,cl 0 = .ref C->bF K (cl 2) (.ref C)=some true
 e_Unknown_AskError : ∀ C,cl 0 = .ref C->bF K (cl 3) (.ref C)=some true
 k_Unknown : ∀ D,cl 3 = .ref D->∀ x,x∈(["BadOrder", "NotTop", "Unknown"] : List Str)->∀ C,ag K mainGlobals x=some (some (.ref C))->bc K (.ref C) (.ref D)=some ((["Unknown"] : List Str).contains x)
section
variable {P : Program} {w : World} {K : aa} {mg : Str->Option Value} {base : Heap} {cl : Nat->Value}
theorem z9B : FnScope y1n z5g (z0b z2d):=⟨rfl,rfl,rfl,by decide +kernel,rfl,by decide +kernel,by decide +kernel⟩
theorem z9A {f : Addr} {fd : FuncData} (F : Fun K "beats_all" "beats_all" z2d f fd) (hm : mg "beats_all" = some (.ref f)) (hb : Binds K fd z5g []) (T : Txt mg) : DefOk P w K mg base 1 "beats_all" (spN K z0Q):=
 z6q (k:=0) (g:=z4U) F hm hb z9B rfl rfl fun cdv A outer s H E hr=>
  (z0h (z1m (x0O rfl rfl T.b_all (z4E (z3Z (N':=["table", "one", "things", "other"])  rfl ⟨rfl,rfl,rfl,rfl,rfl⟩ (n:=3) rfl (z0N (z0f 2 (pv 2))) (fun _ _ _ _ _=>z0l (i:=3) nd0 rfl (Or.inl rfl)) (fun _ _ _ _ _=>z1B) (fun _ _ _ _ _=>(z0D (z0D (z0f 0 (pv 0)) (z0f 1 (pv 1))) (z0f 3 (pv 3)))))))))
theorem z7J : FnScope z8K z3L (z0b z1w):=⟨rfl,rfl,rfl,by decide +kernel,rfl,by decide +kernel,by decide +kernel⟩
theorem z7B {f : Addr} {fd : FuncData} (F : Fun K "places_true" "places_true" z1w f fd) (hm : mg "places_true" = some (.ref f)) (hb : Binds K fd z3L []) (T : Txt mg) : DefOk P w K mg base 1 "places_true" (spN K z1Y):=
 z6q (k:=0) (g:=z3O) F hm hb z7J rfl rfl fun cdv A outer s H E hr=>
  (z0h (z2V (z6o (z6w (N':=["marks", "place", "mark"])  rfl ⟨rfl,rfl,rfl,rfl,rfl⟩ (n:=1) rfl (z5t rfl T.b_enumerate (z0f 0 (pv 0))) (fun _ _ _ _ _=>y2K rfl (z0l (i:=1) nd1 rfl (Or.inl rfl)) (z0l (i:=2) nd1 rfl (Or.inl rfl))) (fun _ _ _ _ _=>z1E (z0y (z0f 2 (pv 2)))) (fun _ _ _ _ _=>(z0f 1 (pv 1)))))))
theorem y0s : FnScope y1k z5i (z0b z2n):=⟨rfl,rfl,rfl,by decide +kernel,rfl,by decide +kernel,by decide +kernel⟩
theorem y0d {f : Addr} {fd : FuncData} (F : Fun K "beaten_by" "beaten_by" z2n f fd) (hm : mg "beaten_by" = some (.ref f)) (hb : Binds K fd z5i []) (T : Txt mg) (G_places_true : DefOk P w K mg base 1 "places_true" (spN K z1Y)) : DefOk P w K mg base 2 "beaten_by" (spN K z1n):=
 z6q (k:=1) (g:=z4Y) F hm hb y0s rfl rfl fun cdv A outer s H E hr=>
  (z0h (z2V (z0q G_places_true (hr.mono (by decide)) rfl (z0a (z0D (z0f 0 (pv 0)) (z0f 1 (pv 1))) z0e))))
theorem y1h : FnScope y3p z5O (z0b z2T):=⟨rfl,rfl,rfl,by decide +kernel,rfl,by decide +kernel,by decide +kernel⟩
theorem y0F {f : Addr} {fd : FuncData} (F : Fun K "is_thing" "is_thing" z2T f fd) (hm : mg "is_thing" = some (.ref f)) (hb : Binds K fd z5O []) (T : Txt mg) : DefOk P w K mg base 1 "is_thing" (spN K z3w):=
 z6q (k:=0) (g:=z5L) F hm hb y1h rfl rfl fun cdv A outer s H E hr=>
  (z0h (z1m (z9O (y2l rfl T.b_int rfl T.b_isinstance (z0f 0 (pv 0))) (z9O (y9G (z9T rfl T.b_bool rfl T.b_isinstance (z0f 0 (pv 0)))) (y2q (y9w op_le op_lt z6F z6F z0m (z0f 0 (pv 0)) (z0f 1 (pv 1))))))))
theorem sc_tells_each_once : FnScope z5U z2j (z0b z0L):=⟨rfl,rfl,rfl,by decide +kernel,rfl,by decide +kernel,by decide +kernel⟩
theorem z5y {f : Addr} {fd : FuncData} (F : Fun K "tells_each_once" "tells_each_once" z0L f fd) (hm : mg "tells_each_once" = some (.ref f)) (hb : Binds K fd z2j []) (T : Txt mg) (G_is_thing : DefOk P w K mg base 1 "is_thing" (spN K z3w)) : DefOk P w K mg base 2 "tells_each_once" (spN K z0X):=
 z6q (k:=1) (g:=z2b) F hm hb sc_tells_each_once rfl rfl fun cdv A outer s H E hr=>
  (z0g (z4H (y9k hr.units (z1f rfl T.b_len (z0f 0 (pv 0))) (z0f 1 (pv 1))) (z0h (z1m z7H)) z0K)
   (z0g (z2E (z0P (i:=2) sc_tells_each_once.nd rfl (Or.inl rfl) pn_dnew))
   (z0g (z2H PassesOwn.never rfl (z0N (z0f 0 (pv 0))) (z0l (i:=3) sc_tells_each_once.nd rfl (Or.inl rfl)) (z0g (z4H (PW.pt (y2G (z5M (z0y (z4F (z0q G_is_thing (hr.mono (by decide)) rfl (z0a (z0f 3 (pv 3)) (z0a (z0f 1 (pv 1)) z0e)))))) (z8r (pt_din hr.units (z0f 3 (pv 3)) (z0f 2 (pv 2)))))) (z0h (z1m z7H)) z0K)
   (z0h (y9T hr.units (pv 2) (z0f 3 (pv 3)) z7H))))
   (z0h (z1m z7H)))))
theorem z7K : FnScope z8f z2J (z0b z1v):=⟨rfl,rfl,rfl,by decide +kernel,rfl,by decide +kernel,by decide +kernel⟩
theorem z7v {f : Addr} {fd : FuncData} (F : Fun K "order_asked" "order_asked" z1v f fd) (hm : mg "order_asked" = some (.ref f)) (hb : Binds K fd z2J []) (T : Txt mg) (Z : Cls K mg base cl) (G_tells_each_once : DefOk P w K mg base 2 "tells_each_once" (spN K z0X)) : DefX P w K mg base 3 "order_asked" (spX K cl z1c):=by
 obtain ⟨C_BadOrder,hc_BadOrder,O_BadOrder,nn_BadOrder,xb_BadOrder⟩:=Z.o_BadOrder
 exact ⟨f,fd,z2J,hm,F.kp,hb,fnX (k:=2) (g:=z3G) F z7K rfl rfl fun cdv A outer s H E hr=>
  (z0h (z4H (PW.pt (y2G (z4W hr.units (z0f 1 (pv 1)) z0m) (z8r (z5M (z0y (z4F (z0q G_tells_each_once (hr.mono (by decide)) rfl (z0a (z0f 0 (pv 0)) (z0a (z0f 1 (pv 1)) z0e))))))))) (z0h (z6D (c:=1) rfl rfl O_BadOrder (z6y hc_BadOrder) z0M)) z0K))⟩
theorem y6O : FnScope y7R z8u (z0b z4D):=⟨rfl,rfl,rfl,by decide +kernel,rfl,by decide +kernel,by decide +kernel⟩
theorem y5r {f : Addr} {fd : FuncData} (F : Fun K "winner" "winner" z4D f fd) (hm : mg "winner" = some (.ref f)) (hb : Binds K fd z8u []) (T : Txt mg) : DefOk P w K mg base 1 "winner" (spN K z5C):=
 z6q (k:=0) (g:=z9d) F hm hb y6O rfl rfl fun cdv A outer s H E hr=>
  (z0h (z1m (pd_if (z0y (z0D (z0D (z0f 0 (pv 0)) (z0f 2 (pv 2))) (z0f 1 (pv 1)))) (z0f 2 (pv 2)) (z0f 1 (pv 1)))))
theorem sc_last_standing : FnScope z6U z1X (z0b z0U):=⟨rfl,rfl,rfl,by decide +kernel,rfl,by decide +kernel,by decide +kernel⟩
theorem z6t {f : Addr} {fd : FuncData} (F : Fun K "last_standing" "last_standing" z0U f fd) (hm : mg "last_standing" = some (.ref f)) (hb : Binds K fd z1X []) (T : Txt mg) (Z : Cls K mg base cl) (G_order_asked : DefX P w K mg base 3 "order_asked" (spX K cl z1c)) (G_winner : DefOk P w K mg base 1 "winner" (spN K z5C)) : DefX P w K mg base 4 "last_standing" (spX K cl z0Z):=by
 exact ⟨f,fd,z1X,hm,F.kp,hb,fnX (k:=3) (g:=z2Y) F sc_last_standing rfl rfl fun cdv A outer s H E hr=>
  (z0g (y0J (z5c G_order_asked (hr.mono (by decide)) rfl z7V (z0a (z0f 1 (pv 1)) (z0a (z1f rfl T.b_len (z0f 0 (pv 0))) z0e))))
   (z0g (z4n (z0P (i:=2) sc_last_standing.nd rfl (Or.inl rfl) (z0D (z0f 1 (pv 1)) z0m)))
   (z0g (z2H PassesOwn.leaving rfl (z0N (z4E (z2s (z0f 1 (pv 1)) (z2q z0m) z2v))) (z0l (i:=3) sc_last_standing.nd rfl (Or.inl rfl)) (z0h (z2E (z0P (i:=2) sc_last_standing.nd rfl (Or.inl rfl) (z0q G_winner (hr.mono (by decide)) rfl (z0a (z0f 0 (pv 0)) (z0a (z0f 2 (pv 2)) (z0a (z0f 3 (pv 3)) z0e))))))))
   (z0h (z1m (z0f 2 (pv 2)))))))⟩
theorem sc_chain_behind : FnScope z7G z2t (z0b z1k):=⟨rfl,rfl,rfl,by decide +kernel,rfl,by decide +kernel,by decide +kernel⟩
theorem z7i {f : Addr} {fd : FuncData} (F : Fun K "chain_behind" "chain_behind" z1k f fd) (hm : mg "chain_behind" = some (.ref f)) (hb : Binds K fd z2t []) (T : Txt mg) (Z : Cls K mg base cl) (G_beats_all : DefOk P w K mg base 1 "beats_all" (spN K z0Q)) (G_order_asked : DefX P w K mg base 3 "order_asked" (spX K cl z1c)) : DefX P w K mg base 4 "chain_behind" (spX K cl z1C):=by
 exact ⟨f,fd,z2t,hm,F.kp,hb,fnX (k:=3) (g:=z3o) F sc_chain_behind rfl rfl fun cdv A outer s H E hr=>
  (z0g (y0J (z5c G_order_asked (hr.mono (by decide)) rfl z7V (z0a (z0f 1 (pv 1)) (z0a (z1f rfl T.b_len (z0f 0 (pv 0))) z0e))))
   (z0g (z2E (z0P (i:=2) sc_chain_behind.nd rfl (Or.inl rfl) (z6o (z0T z0e))))
   (z0g (z2H PassesOwn.leaving rfl (y0Y rfl T.b_reversed (z0f 1 (pv 1))) (z0l (i:=3) sc_chain_behind.nd rfl (Or.inl rfl)) (z0h (z4H (z0y (z4F (z0q G_beats_all (hr.mono (by decide)) rfl (z0a (z0f 0 (pv 0)) (z0a (z0f 3 (pv 3)) (z0a (z0f 2 (pv 2)) z0e)))))) (z0h (z2E (z0P (i:=2) sc_chain_behind.nd rfl (Or.inl rfl) (z6o (z6h (z4E (z0T (z0a (z0f 3 (pv 3)) z0e))) (z0f 2 (pv 2))))))) z0K)))
   (z0h (z8b (pv 2))))))⟩
theorem y1H : FnScope y3v z5T (z0b z2O):=⟨rfl,rfl,rfl,by decide +kernel,rfl,by decide +kernel,by decide +kernel⟩
theorem y1f {f : Addr} {fd : FuncData} (F : Fun K "is_chain" "is_chain" z2O f fd) (hm : mg "is_chain" = some (.ref f)) (hb : Binds K fd z5T []) (T : Txt mg) (G_beats_all : DefOk P w K mg base 1 "beats_all" (spN K z0Q)) : DefOk P w K mg base 2 "is_chain" (spN K z3p):=
 z6q (k:=1) (g:=z4r) F hm hb y1H rfl rfl fun cdv A outer s H E hr=>
  (z0g (z4H (z4W hr.units (z1f rfl T.b_len (z0f 1 (pv 1))) z0m) (z0h (z1m z7H)) z0K)
   (z0h (z1m (x0O rfl rfl T.b_all (z4E (z6w (N':=["table", "things", "place", "one"])  rfl ⟨rfl,rfl,rfl,rfl,rfl⟩ (n:=2) rfl (z5t rfl T.b_enumerate (z0f 1 (pv 1))) (fun _ _ _ _ _=>y2K rfl (z0l (i:=2) nd2 rfl (Or.inl rfl)) (z0l (i:=3) nd2 rfl (Or.inl rfl))) (fun _ _ _ _ _=>z1B) (fun _ _ _ _ _=>(z4F (z0q G_beats_all (hr.mono (by decide)) rfl (z0a (z0f 0 (pv 0)) (z0a (z0f 3 (pv 3)) (z0a (z4E (z2s (z0f 1 (pv 1)) (z2q (z6k (z0f 2 (pv 2)) z0m)) z2v)) z0e))))))))))))
theorem y3W : FnScope y6l z6M (z0b z3r):=⟨rfl,rfl,rfl,by decide +kernel,rfl,by decide +kernel,by decide +kernel⟩
theorem y3U {f : Addr} {fd : FuncData} (F : Fun K "beaters" "beaters" z3r f fd) (hm : mg "beaters" = some (.ref f)) (hb : Binds K fd z6M []) (T : Txt mg) (G_beats_all : DefOk P w K mg base 1 "beats_all" (spN K z0Q)) : DefOk P w K mg base 2 "beaters" (spN K z2w):=
 z6q (k:=1) (g:=z7o) F hm hb y3W rfl rfl fun cdv A outer s H E hr=>
  (z0h (z2V (z6o (z3Z (N':=["table", "things", "one"])  rfl ⟨rfl,rfl,rfl,rfl,rfl⟩ (n:=2) rfl (z2c rfl T.b_range (z1f rfl T.b_len (z0f 0 (pv 0)))) (fun _ _ _ _ _=>z0l (i:=2) nd3 rfl (Or.inl rfl)) (fun _ _ _ _ _=>z1E (z0y (z4F (z0q G_beats_all (hr.mono (by decide)) rfl (z0a (z0f 0 (pv 0)) (z0a (z0f 2 (pv 2)) (z0a (z0f 1 (pv 1)) z0e))))))) (fun _ _ _ _ _=>(z0f 2 (pv 2)))))))
theorem y7m : FnScope y9r z8o (z0b z4z):=⟨rfl,rfl,rfl,by decide +kernel,rfl,by decide +kernel,by decide +kernel⟩
theorem y7v {f : Addr} {fd : FuncData} (F : Fun K "stands" "stands" z4z f fd) (hm : mg "stands" = some (.ref f)) (hb : Binds K fd z8o []) (T : Txt mg) (G_is_chain : DefOk P w K mg base 2 "is_chain" (spN K z3p)) (G_beaters : DefOk P w K mg base 2 "beaters" (spN K z2w)) : DefOk P w K mg base 3 "stands" (spN K z4A):=
 z6q (k:=2) (g:=z8M) F hm hb y7m rfl rfl fun cdv A outer s H E hr=>
  (z0h (z1m (z9O (z4F (z0q G_is_chain (hr.mono (by decide)) rfl (z0a (z0f 0 (pv 0)) (z0a (z0f 1 (pv 1)) z0e)))) (y2q (y8J hr.units (z1f rfl T.b_len (z4F (z0q G_beaters (hr.mono (by decide)) rfl (z0a (z0f 0 (pv 0)) (z0a (z0f 1 (pv 1)) z0e))))) z0m)))))
theorem sc_ended_chains : FnScope z7M z2p (z0b z0R):=⟨rfl,rfl,rfl,by decide +kernel,rfl,by decide +kernel,by decide +kernel⟩
theorem z3S {f : Addr} {fd : FuncData} (F : Fun K "ended_chains" "ended_chains" z0R f fd) (hm : mg "ended_chains" = some (.ref f)) (hb : Binds K fd z2p []) (T : Txt mg) : ∀ n : Nat,DefOk P w K mg base (1 + n) "ended_chains" (spM2 K (z1o n))
 | 0=>defM2 (k:=0) (g:=fun _=>none) F hm hb sc_ended_chains rfl rfl fun cdv A outer s H H0 E hr=>y9q
 | n + 1=>by
  have G_ended_chains:=z3S F hm hb T n
  exact defM2 (k:=1 + n) (g:=z2o (z1o n)) F hm hb sc_ended_chains rfl rfl fun cdv A outer s H H0 E hr=>
  (z0g (z4H (z5M (z0y (z0f 2 (pv 2)))) (z0h (s_ret1 (pv 1))) z0K)
   (z0g (z2E (z0P (i:=3) sc_ended_chains.nd rfl (Or.inl rfl) (z6o (z0T z0e (cO rfl)))))
   (z0g (z2H PassesOwn.never rfl (z0N (z0f 2 (pv 2))) (z0l (i:=4) sc_ended_chains.nd rfl (Or.inr rfl)) (z0h (y6C (pv 3) (z9Q G_ended_chains (hr.mono (by omega)) rfl (z0f 0 (pv 0)) (z6o (z6h (z0f 1 (pv 1)) (z4E (z0T (z0a (z0f 4 (pv 4)) z0e) (cO rfl))))) (z0a (z4E (z3Z (N':=["table", "chain", "further", "chains", "thing", "other"])  rfl ⟨rfl,rfl,rfl,rfl,rfl⟩ (n:=5) rfl (z0N (z0f 2 (pv 2))) (fun _ _ _ _ _=>z0l (i:=5) nd4 rfl (Or.inl rfl)) (fun _ _ _ _ _=>z1E (z0y (z0D (z0D (z0f 0 (pv 0)) (z0f 4 (pv 4))) (z0f 5 (pv 5))))) (fun _ _ _ _ _=>(z0f 5 (pv 5))))) z0e)))))
   (z0h (z8b (pv 3))))))
theorem z7j {f : Addr} {fd : FuncData} (F : Fun K "ended_chains" "ended_chains" z0R f fd) (hm : mg "ended_chains" = some (.ref f)) (hb : Binds K fd z2p []) (T : Txt mg) : DefOk P w K mg base 13 "ended_chains" (spM2 K z1D):=z3S F hm hb T 12
theorem sc_crown_paper : FnScope z8T z3P (z0b z1x):=⟨rfl,rfl,rfl,by decide +kernel,rfl,by decide +kernel,by decide +kernel⟩
theorem z7w {f : Addr} {fd : FuncData} (F : Fun K "crown_paper" "crown_paper" z1x f fd) (hm : mg "crown_paper" = some (.ref f)) (hb : Binds K fd z3P []) (T : Txt mg) (G_beaten_by : DefOk P w K mg base 2 "beaten_by" (spN K z1n)) (G_beaters : DefOk P w K mg base 2 "beaters" (spN K z2w)) (G_stands : DefOk P w K mg base 3 "stands" (spN K z4A)) (G_ended_chains : DefOk P w K mg base 13 "ended_chains" (spM2 K z1D)) : DefOk P w K mg base 14 "crown_paper" (spR K z1W):=
 defR (k:=13) (g:=z3M) F hm hb sc_crown_paper rfl rfl fun cdv A outer s H E B hr=>
  (z0g (z1I (z0P (i:=2) sc_crown_paper.nd rfl (Or.inl rfl) (z4F (z9Q G_ended_chains (hr.mono (by decide)) rfl (z0f 0 (pv 0)) (z6o (z0T (z0a (z0f 1 (pv 1)) z0e))) (z0a (z4F (z0q G_beaten_by (hr.mono (by decide)) rfl (z0a (z0f 0 (pv 0)) (z0a (z0f 1 (pv 1)) z0e)))) z0e)))))
   (z0g (z2H PassesOwn.never rfl (z0N (z0f 2 (pv 2))) (z0l (i:=3) sc_crown_paper.nd rfl (Or.inl rfl)) (z0h (z4H (z0y (z4F (z0q G_stands (hr.mono (by decide)) rfl (z0a (z0f 0 (pv 0)) (z0a (z0f 3 (pv 3)) z0e))))) (z0h (z2F (z5w (z0a z0M (z0a (z0f 3 (pv 3)) z0e))))) z0K)))
   (z0h (z2F (z5w (z0a z0M (z0a (z4E (z3Z (N':=["table", "thing", "chains", "3", "chain"])  rfl ⟨rfl,rfl,rfl,rfl,rfl⟩ (n:=4) rfl (z0N (z0f 2 (pv 2))) (fun _ _ _ _ _=>z0l (i:=4) nd5 rfl (Or.inl rfl)) (fun _ _ _ _ _=>z1B) (fun _ _ _ _ _=>(z5w (z0a (z0f 4 (pv 4)) (z0a (z0D (z4F (z0q G_beaters (hr.mono (by decide)) rfl (z0a (z0f 0 (pv 0)) (z0a (z0f 4 (pv 4)) z0e)))) z0m) z0e)))))) z0e)))))))
theorem sc_steps_from : FnScope y0t z4d (z0b z1K):=⟨rfl,rfl,rfl,by decide +kernel,rfl,by decide +kernel,by decide +kernel⟩
theorem z8S {f : Addr} {fd : FuncData} (F : Fun K "steps_from" "steps_from" z1K f fd) (hm : mg "steps_from" = some (.ref f)) (hb : Binds K fd z4d []) (T : Txt mg) (G_beaten_by : DefOk P w K mg base 2 "beaten_by" (spN K z1n)) : DefOk P w K mg base 3 "steps_from" (spN K z2A):=
 z6q (k:=2) (g:=z3X) F hm hb sc_steps_from rfl rfl fun cdv A outer s H E hr=>
  (z0g (z2E (z0P (i:=2) sc_steps_from.nd rfl (Or.inl rfl) (y8t (z0f 1 (pv 1)) (z0f 1 (pv 1)))))
   (z0g (z2E (z0P (i:=3) sc_steps_from.nd rfl (Or.inl rfl) (z6o (z0T (z0a (z0f 1 (pv 1)) z0e)))))
   (z0g (y5O 100 PassesOwn.never (z0y (z0f 3 (pv 3))) (z0g (z2E (z0P (i:=4) sc_steps_from.nd rfl (Or.inl rfl) (z6o (z0T z0e))))
   (z0g (y7Y 3 (z2H PassesOwn.never rfl (z0N (z0f 3 (pv 3))) (z0l (i:=5) sc_steps_from.nd rfl (Or.inl rfl)) (z0h (z2H PassesOwn.never rfl (z0N (z4F (z0q G_beaten_by (hr.mono (by decide)) rfl (z0a (z0f 0 (pv 0)) (z0a (z0f 5 (pv 5)) z0e))))) (z0l (i:=6) sc_steps_from.nd rfl (Or.inl rfl)) (z0h (z4H (pt_dnin hr.units (z0f 6 (pv 6)) (z0f 2 (pv 2))) (z0g (y9T hr.units (pv 2) (z0f 6 (pv 6)) (z0f 5 (pv 5)))
   (z0h (s_m0 PySem.F.slot_list_append PySem.F.type_list_append z5o z6P (pv 4) (z0a (z0f 6 (pv 6)) z0e)))) z0K))))))
   (z0h (s_mov (by decide) (z0P (i:=3) sc_steps_from.nd rfl (Or.inl rfl) (pv 4)))))))
   (z0h (z8b (pv 2))))))
theorem y3O : FnScope y4M z6I (z0b z3t):=⟨rfl,rfl,rfl,by decide +kernel,rfl,by decide +kernel,by decide +kernel⟩
theorem y3K {f : Addr} {fd : FuncData} (F : Fun K "reached" "reached" z3t f fd) (hm : mg "reached" = some (.ref f)) (hb : Binds K fd z6I []) (T : Txt mg) (G_steps_from : DefOk P w K mg base 3 "steps_from" (spN K z2A)) : DefOk P w K mg base 4 "reached" (spN K z3y):=
 z6q (k:=3) (g:=z6N) F hm hb y3O rfl rfl fun cdv A outer s H E hr=>
  (z0h (z2V (z6o (y3X rfl rfl T.b_sorted (z4F (z0q G_steps_from (hr.mono (by decide)) rfl (z0a (z0f 0 (pv 0)) (z0a (z0f 1 (pv 1)) z0e))))))))
theorem z7A : FnScope z8I z3C (z0b z1y):=⟨rfl,rfl,rfl,by decide +kernel,rfl,by decide +kernel,by decide +kernel⟩
theorem z7y {f : Addr} {fd : FuncData} (F : Fun K "places_with" "places_with" z1y f fd) (hm : mg "places_with" = some (.ref f)) (hb : Binds K fd z3C []) (T : Txt mg) : DefOk P w K mg base 1 "places_with" (spN K z1z):=
 z6q (k:=0) (g:=z3F) F hm hb z7A rfl rfl fun cdv A outer s H E hr=>
  (z0h (z2V (z6o (z6w (N':=["counts", "wanted", "place", "count"])  rfl ⟨rfl,rfl,rfl,rfl,rfl⟩ (n:=2) rfl (z5t rfl T.b_enumerate (z0f 0 (pv 0))) (fun _ _ _ _ _=>y2K rfl (z0l (i:=2) nd6 rfl (Or.inl rfl)) (z0l (i:=3) nd6 rfl (Or.inl rfl))) (fun _ _ _ _ _=>z1E (z4W hr.units (z0f 3 (pv 3)) (z0f 1 (pv 1)))) (fun _ _ _ _ _=>(z0f 2 (pv 2)))))))
theorem sc_rings : FnScope N_rings y1u (z0b z5X):=⟨rfl,rfl,rfl,by decide +kernel,rfl,by decide +kernel,by decide +kernel⟩
theorem y8x {f : Addr} {fd : FuncData} (F : Fun K "rings" "rings" z5X f fd) (hm : mg "rings" = some (.ref f)) (hb : Binds K fd y1u []) (T : Txt mg) (G_reached : DefOk P w K mg base 4 "reached" (spN K z3y)) (G_places_with : DefOk P w K mg base 1 "places_with" (spN K z1z)) : DefOk P w K mg base 5 "rings" (spN K z5a):=
 z6q (k:=4) (g:=y1b) F hm hb sc_rings rfl rfl fun cdv A outer s H E hr=>
  (z0g (z2E (z0P (i:=1) sc_rings.nd rfl (Or.inr rfl) (z6o (z3Z (N':=["table", "counts", "one"])  rfl ⟨rfl,rfl,rfl,rfl,rfl⟩ (n:=2) rfl (z2c rfl T.b_range (z1f rfl T.b_len (z0f 0 (pv 0)))) (fun _ _ _ _ _=>z0l (i:=2) nd8 rfl (Or.inl rfl)) (fun _ _ _ _ _=>z1B) (fun _ _ _ _ _=>(z1f rfl T.b_len (z4F (z0q G_reached (hr.mono (by decide)) rfl (z0a (z0f 0 (pv 0)) (z0a (z0f 2 (pv 2)) z0e))))))))))
   (z0h (z2V (y1C (N':=["table", "counts", "count"])  rfl ⟨rfl,rfl,rfl,rfl,rfl⟩ (n:=2) rfl (pi_rngN rfl T.b_range (z1f rfl T.b_len (z0f 0 (pv 0))) z0m (y2g z0m)) (fun _ _ _ _ _=>z0l (i:=2) nd7 rfl (Or.inl rfl)) (fun _ _ _ _ _=>z1E (pt_in hr.units (z0f 2 (pv 2)) (z0f 1 (pv 1)))) (fun _ _ _ _ _=>(z0q G_places_with (hr.mono (by decide)) rfl (z0a (z0f 1 (pv 1)) (z0a (z0f 2 (pv 2)) z0e))))))))
theorem y1l : FnScope y3t z6d (z0b z2S):=⟨rfl,rfl,rfl,by decide +kernel,rfl,by decide +kernel,by decide +kernel⟩
theorem y1E {f : Addr} {fd : FuncData} (F : Fun K "top_ring" "top_ring" z2S f fd) (hm : mg "top_ring" = some (.ref f)) (hb : Binds K fd z6d []) (T : Txt mg) (G_rings : DefOk P w K mg base 5 "rings" (spN K z5a)) : DefOk P w K mg base 6 "top_ring" (spN K z2g):=
 z6q (k:=5) (g:=z5R) F hm hb y1l rfl rfl fun cdv A outer s H E hr=>
  (z0h (z2V (pn_ixN (z0q G_rings (hr.mono (by decide)) rfl (z0a (z0f 0 (pv 0)) z0e)) z0m)))
theorem sc_begun_with : FnScope y0z z4i (z0b z1N):=⟨rfl,rfl,rfl,by decide +kernel,rfl,by decide +kernel,by decide +kernel⟩
theorem z8z {f : Addr} {fd : FuncData} (F : Fun K "begun_with" "begun_with" z1N f fd) (hm : mg "begun_with" = some (.ref f)) (hb : Binds K fd z4i []) (T : Txt mg) : DefOk P w K mg base 1 "begun_with" (spN K z2y):=
 z6q (k:=0) (g:=z3Y) F hm hb sc_begun_with rfl rfl fun cdv A outer s H E hr=>
  (z0g (z4n (z0P (i:=2) sc_begun_with.nd rfl (Or.inl rfl) (y6X (z0f 0 (pv 0)) (z0f 1 (pv 1)))))
   (z0h (z2V (z6o (z6h (z4E (z2s (z0f 0 (pv 0)) (z2q (z0f 2 (pv 2))) z2v)) (z4E (z2s (z0f 0 (pv 0)) z2v (z2q (z0f 2 (pv 2))))))))))
theorem sc_detour : FnScope y9b z8J (z0b z4s):=⟨rfl,rfl,rfl,by decide +kernel,rfl,by decide +kernel,by decide +kernel⟩
theorem y6K {f : Addr} {fd : FuncData} (F : Fun K "detour" "detour" z4s f fd) (hm : mg "detour" = some (.ref f)) (hb : Binds K fd z8J []) (T : Txt mg) : DefOk P w K mg base 1 "detour" (spN K z4t):=
 z6q (k:=0) (g:=z8F) F hm hb sc_detour rfl rfl fun cdv A outer s H E hr=>
  (z0g (z2H PassesOwn.never rfl (z0N (z0f 3 (pv 3))) (z0l (i:=4) sc_detour.nd rfl (Or.inl rfl)) (z0h (z4H (PW.pt (y1v (z0y (z0D (z0D (z0f 0 (pv 0)) (z0f 1 (pv 1))) (z0f 4 (pv 4)))) (y2v (z0y (z0D (z0D (z0f 0 (pv 0)) (z0f 4 (pv 4))) (z0f 2 (pv 2))))))) (z0h (z2V (z6o (z0T (z0a (z0f 4 (pv 4)) z0e))))) z0K)))
   (z0g (z2H PassesOwn.never rfl (z0N (z0f 3 (pv 3))) (z0l (i:=4) sc_detour.nd rfl (Or.inl rfl)) (z0h (z2H PassesOwn.never rfl (z0N (z0f 3 (pv 3))) (z0l (i:=5) sc_detour.nd rfl (Or.inl rfl)) (z0h (z4H (PW.pt (y1v (z0y (z0D (z0D (z0f 0 (pv 0)) (z0f 1 (pv 1))) (z0f 4 (pv 4)))) (y1v (z0y (z0D (z0D (z0f 0 (pv 0)) (z0f 4 (pv 4))) (z0f 5 (pv 5)))) (y2v (z0y (z0D (z0D (z0f 0 (pv 0)) (z0f 5 (pv 5))) (z0f 2 (pv 2)))))))) (z0h (z2V (z6o (z0T (z0a (z0f 4 (pv 4)) (z0a (z0f 5 (pv 5)) z0e)))))) z0K)))))
   (z0h (z2V (z6o (z0T z0e))))))
theorem sc_widened : FnScope y7u z6Y (z0b z3z):=⟨rfl,rfl,rfl,by decide +kernel,rfl,by decide +kernel,by decide +kernel⟩
theorem y3S {f : Addr} {fd : FuncData} (F : Fun K "widened" "widened" z3z f fd) (hm : mg "widened" = some (.ref f)) (hb : Binds K fd z6Y []) (T : Txt mg) (G_detour : DefOk P w K mg base 1 "detour" (spN K z4t)) : DefOk P w K mg base 2 "widened" (spR K z2X):=
 defR (k:=1) (g:=z7b) F hm hb sc_widened rfl rfl fun cdv A outer s H E B hr=>
  (z0g (z1I (PAsg.imp (y5o (i:=3) (N':=["table", "circle", "ring", "left", "place", "here", "behind", "between", "thing"]) sc_widened.nd rfl rfl rfl ⟨rfl,rfl,rfl,rfl,rfl⟩ (n:=8) rfl (z0N (z0f 2 (pv 2))) (fun _ _ _ _ _=>z0l (i:=8) nd9 rfl (Or.inl rfl)) (fun _ _ _ _ _=>z1E (z9E hr.units (z0f 8 (pv 8)) (z0f 1 (pv 1)))) (fun _ _ _ _ _=>(z0f 8 (pv 8)))) iDF))
   (z0g (s_for2 PassesOwn.never rfl (z5t rfl T.b_enumerate (z0f 1 (pv 1))) (pg_pair rfl (z0l (i:=4) sc_widened.nd rfl (Or.inl rfl)) (z0l (i:=5) sc_widened.nd rfl (Or.inl rfl))) (z0g (z4n (z0P (i:=6) sc_widened.nd rfl (Or.inl rfl) (z0D (z0f 1 (pv 1)) (z4c (z6k (z0f 4 (pv 4)) z0m) (z1f rfl T.b_len (z0f 1 (pv 1)))))))
   (z0g (z1I (z0P (i:=7) sc_widened.nd rfl (Or.inl rfl) (z4F (z0q G_detour (hr.mono (by decide)) rfl (z0a (z0f 0 (pv 0)) (z0a (z0f 5 (pv 5)) (z0a (z0f 6 (pv 6)) (z0a (z0f 3 (pv 3)) z0e))))))))
   (z0h (z4H (z0y (z0f 7 (pv 7))) (z0h (z2F (z4E (z6h (z4E (z6h (z4E (z2s (z0f 1 (pv 1)) z2v (z2q (z6k (z0f 4 (pv 4)) z0m)))) (z0f 7 (pv 7)))) (z4E (z2s (z0f 1 (pv 1)) (z2q (z6k (z0f 4 (pv 4)) z0m)) z2v)))))) z0K)))))
   (z0h (z2F (z0f 1 (pv 1))))))
theorem sc_round_of : FnScope y3y z5I (z0b z2Q):=⟨rfl,rfl,rfl,by decide +kernel,rfl,by decide +kernel,by decide +kernel⟩
theorem y0N {f : Addr} {fd : FuncData} (F : Fun K "round_of" "round_of" z2Q f fd) (hm : mg "round_of" = some (.ref f)) (hb : Binds K fd z5I []) (T : Txt mg) (G_widened : DefOk P w K mg base 2 "widened" (spR K z2X)) : DefOk P w K mg base 3 "round_of" (spR K z2f):=
 defR (k:=2) (g:=z6f) F hm hb sc_round_of rfl rfl fun cdv A outer s H E B hr=>
  (z0g (z1I (z0P (i:=2) sc_round_of.nd rfl (Or.inl rfl) (z4E (z0T (z0a (pd_minL rfl rfl T.b_min (z0f 1 (pv 1))) z0e)))))
   (z0g (z1I (z0P (i:=3) sc_round_of.nd rfl (Or.inl rfl) (z2I G_widened (hr.mono (by decide)) rfl (z0a (z0f 0 (pv 0)) (z0a (z0f 2 (pv 2)) (z0a (z0f 1 (pv 1)) z0e))))))
   (z0g (y5O 100 PassesOwn.never (pt_gt (z1f rfl T.b_len (z0f 3 (pv 3))) (z1f rfl T.b_len (z0f 2 (pv 2)))) (z0g (z1I (z0P (i:=2) sc_round_of.nd rfl (Or.inl rfl) (z0f 3 (pv 3))))
   (z0h (z1I (z0P (i:=3) sc_round_of.nd rfl (Or.inl rfl) (z2I G_widened (hr.mono (by decide)) rfl (z0a (z0f 0 (pv 0)) (z0a (z0f 2 (pv 2)) (z0a (z0f 1 (pv 1)) z0e)))))))))
   (z0h (z2F (z0f 2 (pv 2)))))))
theorem sc_row_from : FnScope y3N z4q (z0b z2M):=⟨rfl,rfl,rfl,by decide +kernel,rfl,by decide +kernel,by decide +kernel⟩
theorem y0I {f : Addr} {fd : FuncData} (F : Fun K "row_from" "row_from" z2M f fd) (hm : mg "row_from" = some (.ref f)) (hb : Binds K fd z4q []) (T : Txt mg) (Z : Cls K mg base cl) (G_rings : DefOk P w K mg base 5 "rings" (spN K z5a)) (G_begun_with : DefOk P w K mg base 1 "begun_with" (spN K z2y)) (G_round_of : DefOk P w K mg base 3 "round_of" (spR K z2f)) : DefX P w K mg base 6 "row_from" (spX K cl z1T):=by
 obtain ⟨C_NotTop,hc_NotTop,O_NotTop,nn_NotTop,xb_NotTop⟩:=Z.o_NotTop
 exact ⟨f,fd,z4q,hm,F.kp,hb,fnX (k:=5) (g:=z5S) F sc_row_from rfl rfl fun cdv A outer s H E hr=>
  (z0g (z1I (z0P (i:=2) sc_row_from.nd rfl (Or.inl rfl) (z4F (z0q G_rings (hr.mono (by decide)) rfl (z0a (z0f 0 (pv 0)) z0e)))))
   (z0g (z4H (z9E hr.units (z0f 1 (pv 1)) (z0D (z0f 2 (pv 2)) z0m)) (z0h (z6D (c:=2) rfl rfl O_NotTop (z6y hc_NotTop) z0M)) z0K)
   (z0g (z2E (z0P (i:=3) sc_row_from.nd rfl (Or.inl rfl) (z0q G_begun_with (hr.mono (by decide)) rfl (z0a (z2I G_round_of (hr.mono (by decide)) rfl (z0a (z0f 0 (pv 0)) (z0a (z0D (z0f 2 (pv 2)) z0m) z0e))) (z0a (z0f 1 (pv 1)) z0e)))))
   (z0g (z2H PassesOwn.leaving rfl (z0N (z4E (z2s (z0f 2 (pv 2)) (z2q z0m) z2v))) (z0l (i:=4) sc_row_from.nd rfl (Or.inl rfl)) (z0h (y5n (pv 3) (z2I G_round_of (hr.mono (by decide)) rfl (z0a (z0f 0 (pv 0)) (z0a (z0f 4 (pv 4)) z0e))))))
   (z0h (z8b (pv 3)))))))⟩
theorem sc_to_stand : FnScope y3E z6a (z0b z2P):=⟨rfl,rfl,rfl,by decide +kernel,rfl,by decide +kernel,by decide +kernel⟩
theorem y1p {f : Addr} {fd : FuncData} (F : Fun K "to_stand" "to_stand" z2P f fd) (hm : mg "to_stand" = some (.ref f)) (hb : Binds K fd z6a []) (T : Txt mg) (Z : Cls K mg base cl) (G_top_ring : DefOk P w K mg base 6 "top_ring" (spN K z2g)) (G_row_from : DefX P w K mg base 6 "row_from" (spX K cl z1T)) : DefOk P w K mg base 7 "to_stand" (spR K z2N):=
 defR (k:=6) (g:=z4C) F hm hb sc_to_stand rfl rfl fun cdv A outer s H E B hr=>
  (z0g (z1I (z0P (i:=2) sc_to_stand.nd rfl (Or.inl rfl) (z4F (z0q G_top_ring (hr.mono (by decide)) rfl (z0a (z0f 0 (pv 0)) z0e)))))
   (z0g (z4H (z9E hr.units (z0f 1 (pv 1)) (z0f 2 (pv 2))) (z0h (z2F (z5w (z0a z0M (z0a (z0f 2 (pv 2)) z0e))))) z0K)
   (z0h (z2F (z5w (z0a z0M (z0a (z4E (z7S rfl rfl T.b_list rfl T.b_reversed (z4F (z5n G_row_from (hr.mono (by decide)) rfl (z0a (z0f 0 (pv 0)) (z0a (z0f 1 (pv 1)) z0e)))))) z0e)))))))
theorem sc_to_crown : FnScope y4a z5P (z0b z2L):=⟨rfl,rfl,rfl,by decide +kernel,rfl,by decide +kernel,by decide +kernel⟩
theorem y1m {f : Addr} {fd : FuncData} (F : Fun K "to_crown" "to_crown" z2L f fd) (hm : mg "to_crown" = some (.ref f)) (hb : Binds K fd z5P []) (T : Txt mg) (G_crown_paper : DefOk P w K mg base 14 "crown_paper" (spR K z1W)) : DefOk P w K mg base 15 "to_crown" (spR K z2R):=
 defR (k:=14) (g:=z4B) F hm hb sc_to_crown rfl rfl fun cdv A outer s H E B hr=>
  (z0g (z1I (z0P (i:=2) sc_to_crown.nd rfl (Or.inl rfl) (z2I G_crown_paper (hr.mono (by decide)) rfl (z0a (z0f 0 (pv 0)) (z0a (z0f 1 (pv 1)) z0e)))))
   (z0g (z4H (z4W hr.units (z0D (z0f 2 (pv 2)) z0m) z0M) (z0h (z2F (z0f 2 (pv 2)))) z0K)
   (z0g (z1I (z0P (i:=3) sc_to_crown.nd rfl (Or.inr rfl) (z0D (z0f 2 (pv 2)) z0m)))
   (z0g (z1I (PAsg.imp (y5o (i:=4) (N':=["table", "thing", "paper", "chain", "others", "other"]) sc_to_crown.nd rfl rfl rfl ⟨rfl,rfl,rfl,rfl,rfl⟩ (n:=5) rfl (z2c rfl T.b_range (z1f rfl T.b_len (z0f 0 (pv 0)))) (fun _ _ _ _ _=>z0l (i:=5) nd10 rfl (Or.inl rfl)) (fun _ _ _ _ _=>z1E (z9E hr.units (z0f 5 (pv 5)) (z0f 3 (pv 3)))) (fun _ _ _ _ _=>(z0f 5 (pv 5)))) iDF))
   (z0h (z2F (z5w (z0a z0M (z0a (z4E (z6h (z0f 4 (pv 4)) (z0f 3 (pv 3)))) (z0a (z0f 3 (pv 3)) z0e))))))))))
theorem sc_to_rest : FnScope y6D z6Q (z0b z3s):=⟨rfl,rfl,rfl,by decide +kernel,rfl,by decide +kernel,by decide +kernel⟩
theorem y3V {f : Addr} {fd : FuncData} (F : Fun K "to_rest" "to_rest" z3s f fd) (hm : mg "to_rest" = some (.ref f)) (hb : Binds K fd z6Q []) (T : Txt mg) (Z : Cls K mg base cl) (G_top_ring : DefOk P w K mg base 6 "top_ring" (spN K z2g)) (G_row_from : DefX P w K mg base 6 "row_from" (spX K cl z1T)) : DefOk P w K mg base 7 "to_rest" (spR K z3A):=
 defR (k:=6) (g:=z5v) F hm hb sc_to_rest rfl rfl fun cdv A outer s H E B hr=>
  (z0g (z1I (z0P (i:=2) sc_to_rest.nd rfl (Or.inl rfl) (z4F (z0q G_top_ring (hr.mono (by decide)) rfl (z0a (z0f 0 (pv 0)) z0e)))))
   (z0g (z4H (z9E hr.units (z0f 1 (pv 1)) (z0f 2 (pv 2))) (z0h (z2F (z5w (z0a z0M (z0a (z0f 2 (pv 2)) z0e))))) z0K)
   (z0h (z2F (z5w (z0a z0M (z0a (z4F (z5n G_row_from (hr.mono (by decide)) rfl (z0a (z0f 0 (pv 0)) (z0a (z0f 1 (pv 1)) z0e)))) z0e)))))))
theorem y4K : FnScope y8V z6H (z0b z4y):=⟨rfl,rfl,rfl,by decide +kernel,rfl,by decide +kernel,by decide +kernel⟩
theorem y7D {f : Addr} {fd : FuncData} (F : Fun K "brings" "brings" z4y f fd) (hm : mg "brings" = some (.ref f)) (hb : Binds K fd z6H []) (T : Txt mg) (Z : Cls K mg base cl) (G_last_standing : DefX P w K mg base 4 "last_standing" (spX K cl z0Z)) (G_chain_behind : DefX P w K mg base 4 "chain_behind" (spX K cl z1C)) : DefX P w K mg base 5 "brings" (spX K cl z1G):=by
 obtain ⟨C_Unknown,hc_Unknown,O_Unknown,nn_Unknown,xb_Unknown⟩:=Z.o_Unknown
 exact ⟨f,fd,z6H,hm,F.kp,hb,fnX (k:=4) (g:=z5x) F y4K rfl rfl fun cdv A outer s H E hr=>
  (z0g (z4H (z4W hr.units (z0f 1 (pv 1)) z0M) (z0h (y5A (z5c G_last_standing (hr.mono (by decide)) rfl z7V (z0a (z0f 0 (pv 0)) (z0a (z0f 2 (pv 2)) z0e))))) z0K)
   (z0g (z4H (z4W hr.units (z0f 1 (pv 1)) z0M) (z0h (y5A (px_ix (z5c G_chain_behind (hr.mono (by decide)) rfl z7V (z0a (z0f 0 (pv 0)) (z0a (z0f 2 (pv 2)) z0e))) z0m))) z0K)
   (z0g (z4H (z4W hr.units (z0f 1 (pv 1)) z0M) (z0h (y5A (z5c G_last_standing (hr.mono (by decide)) rfl z7V (z0a (z0f 0 (pv 0)) (z0a (z4E (z7S rfl rfl T.b_list rfl T.b_reversed (z0f 2 (pv 2)))) z0e))))) z0K)
   (z0h (z6D (c:=3) rfl rfl O_Unknown (z6y hc_Unknown) z0M)))))⟩
theorem z9p : FnScope y1J z3N (z0b z2h):=⟨rfl,rfl,rfl,by decide +kernel,rfl,by decide +kernel,by decide +kernel⟩
theorem z9Z {f : Addr} {fd : FuncData} (F : Fun K "paper_for" "paper_for" z2h f fd) (hm : mg "paper_for" = some (.ref f)) (hb : Binds K fd z3N []) (T : Txt mg) (Z : Cls K mg base cl) (G_to_stand : DefOk P w K mg base 7 "to_stand" (spR K z2N)) (G_to_crown : DefOk P w K mg base 15 "to_crown" (spR K z2R)) (G_to_rest : DefOk P w K mg base 7 "to_rest" (spR K z3A)) : DefX P w K mg base 16 "paper_for" (y8R K cl z0j):=by
 obtain ⟨C_Unknown,hc_Unknown,O_Unknown,nn_Unknown,xb_Unknown⟩:=Z.o_Unknown
 exact ⟨f,fd,z3N,hm,F.kp,hb,fnXS (k:=15) (g:=z1d) F z9p rfl rfl fun cdv A outer s H E B hr=>
  (z0g (z4H (z4W hr.units (z0f 1 (pv 1)) z0M) (z0h (z2F (z2I G_to_stand (hr.mono (by decide)) rfl (z0a (z0f 0 (pv 0)) (z0a (z0f 2 (pv 2)) z0e))))) z0K)
   (z0g (z4H (z4W hr.units (z0f 1 (pv 1)) z0M) (z0h (z2F (z2I G_to_crown (hr.mono (by decide)) rfl (z0a (z0f 0 (pv 0)) (z0a (z0f 2 (pv 2)) z0e))))) z0K)
   (z0g (z4H (z4W hr.units (z0f 1 (pv 1)) z0M) (z0h (z2F (z2I G_to_rest (hr.mono (by decide)) rfl (z0a (z0f 0 (pv 0)) (z0a (z0f 2 (pv 2)) z0e))))) z0K)
   (z0h (z6D (c:=3) rfl rfl O_Unknown (z6y hc_Unknown) z0M)))))⟩
theorem sc_orders_to : FnScope y0K z3I (z0b z2k):=⟨rfl,rfl,rfl,by decide +kernel,rfl,by decide +kernel,by decide +kernel⟩
theorem z9m {f : Addr} {fd : FuncData} (F : Fun K "orders_to" "orders_to" z2k f fd) (hm : mg "orders_to" = some (.ref f)) (hb : Binds K fd z3I []) (T : Txt mg) (Z : Cls K mg base cl) (G_paper_for : DefX P w K mg base 16 "paper_for" (y8R K cl z0j)) : DefX P w K mg base 17 "orders_to" (y8R K cl z0B):=by
 exact ⟨f,fd,z3I,hm,F.kp,hb,fnXS (k:=16) (g:=z3B) F sc_orders_to rfl rfl fun cdv A outer s H E B hr=>
  (z0g (s_or (z1I (PAsg.imp (y5o (i:=2) (N':=["table", "kind", "papers", "thing"]) sc_orders_to.nd rfl rfl rfl ⟨rfl,rfl,rfl,rfl,rfl⟩ (n:=3) rfl (z2c rfl T.b_range (z1f rfl T.b_len (z0f 0 (pv 0)))) (fun _ _ _ _ _=>z0l (i:=3) nd12 rfl (Or.inl rfl)) (fun _ _ _ _ _=>z1B) (fun _ _ _ _ _=>(z9q G_paper_for (hr.mono (by decide)) rfl (z0a (z0f 0 (pv 0)) (z0a (z0f 1 (pv 1)) (z0a (z0f 3 (pv 3)) z0e)))))) iDF)) (s_asgCE (i:=2) (N':=["table", "kind", "papers", "thing"]) rfl ⟨_,rfl⟩ xl_def sc_orders_to.nd rfl rfl rfl ⟨rfl,rfl,rfl,rfl,rfl⟩ (n:=3) rfl (z2c rfl T.b_range (z1f rfl T.b_len (z0f 0 (pv 0)))) (fun _ _ _ _ _=>z0l (i:=3) nd12 rfl (Or.inl rfl)) (fun _ _ _ _ _=>z1B) (fun _ _ _ _ _ hw=>(z8Z G_paper_for (hr.mono (by decide)) rfl hw (z0a (z0f 0 (pv 0)) (z0a (z0f 1 (pv 1)) (z0a (z0f 3 (pv 3)) z0e)))))))
   (z0h (z2F (z4E (z3Z (N':=["table", "kind", "papers", "paper"])  rfl ⟨rfl,rfl,rfl,rfl,rfl⟩ (n:=3) rfl (z0N (z0f 2 (pv 2))) (fun _ _ _ _ _=>z0l (i:=3) nd11 rfl (Or.inl rfl)) (fun _ _ _ _ _=>z1B) (fun _ _ _ _ _=>(pd_if (z4W hr.units (z0D (z0f 3 (pv 3)) z0m) z0M) (z0D (z0f 3 (pv 3)) z0m) pd_non)))))))⟩
theorem z8w : FnScope y0h z3c (z0b z1J):=⟨rfl,rfl,rfl,by decide +kernel,rfl,by decide +kernel,by decide +kernel⟩
theorem z8V {f : Addr} {fd : FuncData} (F : Fun K "can_be_had" "can_be_had" z1J f fd) (hm : mg "can_be_had" = some (.ref f)) (hb : Binds K fd z3c []) (T : Txt mg) (Z : Cls K mg base cl) (G_orders_to : DefX P w K mg base 17 "orders_to" (y8R K cl z0B)) : DefX P w K mg base 18 "can_be_had" (spX K cl z0O):=by
 exact ⟨f,fd,z3c,hm,F.kp,hb,fnX (k:=17) (g:=z3i) F z8w rfl rfl fun cdv A outer s H E hr=>
  (z0h (s_or (z2V (z6o (z6w (N':=["table", "kind", "thing", "order"])  rfl ⟨rfl,rfl,rfl,rfl,rfl⟩ (n:=2) rfl (z5t rfl T.b_enumerate (z9q G_orders_to (hr.mono (by decide)) rfl (z0a (z0f 0 (pv 0)) (z0a (z0f 1 (pv 1)) z0e)))) (fun _ _ _ _ _=>y2K rfl (z0l (i:=2) nd13 rfl (Or.inl rfl)) (z0l (i:=3) nd13 rfl (Or.inl rfl))) (fun _ _ _ _ _=>z1E (y3C (z0f 3 (pv 3)))) (fun _ _ _ _ _=>(z0f 2 (pv 2)))))) (s_retCE (y9d (N':=["table", "kind", "thing", "order"]) (k:=2) ⟨rfl,rfl,rfl,rfl,rfl⟩ (y8D rfl T.b_enumerate (z8Z G_orders_to (hr.mono (by decide)) rfl z7V (z0a (z0f 0 (pv 0)) (z0a (z0f 1 (pv 1)) z0e))))))))⟩
theorem z6V : FnScope z7E z3n (z0b z1j):=⟨rfl,rfl,rfl,by decide +kernel,rfl,by decide +kernel,by decide +kernel⟩
theorem z6K {f : Addr} {fd : FuncData} (F : Fun K "_law_cell_at" "_law_cell_at" z1j f fd) (hm : mg "_law_cell_at" = some (.ref f)) (hb : Binds K fd z3n []) (T : Txt mg) : DefOk P w K mg base 1 "_law_cell_at" (spN K z0p):=
 z6q (k:=0) (g:=z2u) F hm hb z6V rfl rfl fun cdv A outer s H E hr=>
  (z0g (z4H (pt_lt (z0f 1 (pv 1)) (z1f rfl T.b_len (z0f 0 (pv 0)))) (z0h (z1m (z0D (z0f 0 (pv 0)) (z0f 1 (pv 1))))) z0K)
   (z0h (z1m z0m)))
theorem z8W : FnScope z9n z4o (z0b z1Q):=⟨rfl,rfl,rfl,by decide +kernel,rfl,by decide +kernel,by decide +kernel⟩
theorem z9e {f : Addr} {fd : FuncData} (F : Fun K "_law_whole" "_law_whole" z1Q f fd) (hm : mg "_law_whole" = some (.ref f)) (hb : Binds K fd z4o []) (T : Txt mg) : DefOk P w K mg base 1 "_law_whole" (spN K z1L):=
 z6q (k:=0) (g:=z4g) F hm hb z8W rfl rfl fun cdv A outer s H E hr=>
  (z0h (z1m (z9O (y2l rfl T.b_int rfl T.b_isinstance (z0f 0 (pv 0))) (y2q (y9G (z9T rfl T.b_bool rfl T.b_isinstance (z0f 0 (pv 0))))))))
theorem sc__law_table : FnScope z9Y z4b (z0b z1O):=⟨rfl,rfl,rfl,by decide +kernel,rfl,by decide +kernel,by decide +kernel⟩
theorem z8q {f : Addr} {fd : FuncData} (F : Fun K "_law_table" "_law_table" z1O f fd) (hm : mg "_law_table" = some (.ref f)) (hb : Binds K fd z4b []) (T : Txt mg) (G__law_cell_at : DefOk P w K mg base 1 "_law_cell_at" (spN K z0p)) : DefOk P w K mg base 2 "_law_table" (spN K z1M):=
 z6q (k:=1) (g:=z3U) F hm hb sc__law_table rfl rfl fun cdv A outer s H E hr=>
  (z0g (z4n (z0P (i:=2) sc__law_table.nd rfl (Or.inl rfl) (z4c (z4F (z0q G__law_cell_at (hr.mono (by decide)) rfl (z0a (z0f 0 (pv 0)) (z0a z0m z0e)))) z0m)))
   (z0g (z2E (pas_cN (i:=3) (N':=["script", "many", "seed", "table", "pairs", "a", "b", "bits", "p", "9", "k"]) sc__law_table.nd rfl rfl rfl ⟨rfl,rfl,rfl,rfl,rfl⟩ (n:=10) rfl (z2c rfl T.b_range (z0f 1 (pv 1))) (fun _ _ _ _ _=>z0l (i:=10) nd14 rfl (Or.inl rfl)) (fun _ _ _ _ _=>z1B) (fun _ _ _ _ _=>(z6o (x0w (z4E (z0T (z0a z7H z0e))) (z0f 1 (pv 1)))))))
   (z0g (z2E (z0P (i:=4) sc__law_table.nd rfl (Or.inl rfl) (z6o (z0T z0e))))
   (z0g (z2H PassesOwn.never rfl (z2c rfl T.b_range (z0f 1 (pv 1))) (z0l (i:=5) sc__law_table.nd rfl (Or.inl rfl)) (z0h (z2H PassesOwn.never rfl (z2c rfl T.b_range (z0f 5 (pv 5))) (z0l (i:=6) sc__law_table.nd rfl (Or.inl rfl)) (z0h (s_m0 PySem.F.slot_list_append PySem.F.type_list_append z5o z6P (pv 4) (z0a (z5w (z0a (z0f 5 (pv 5)) (z0a (z0f 6 (pv 6)) z0e))) z0e))))))
   (z0g (z2E (z0P (i:=7) sc__law_table.nd rfl (Or.inl rfl) (z6o (x0w (z4E (z0T (z0a z0m z0e))) (z1f rfl T.b_len (z0f 4 (pv 4)))))))
   (z0g (y7Y 4 (z2H PassesOwn.never rfl (z2c rfl T.b_range (z1f rfl T.b_len (z0f 4 (pv 4)))) (z0l (i:=8) sc__law_table.nd rfl (Or.inl rfl)) (z0h (z4H (pt_gt (z4c (z0f 2 (pv 2)) z0m) z0m) (z0h (s_st0 (pv 7) (z0f 8 (pv 8)) (z4c (x0v (z4c (y7b (z0f 2 (pv 2)) (z6k z0m (y7b (y7b z0m (z0f 8 (pv 8))) (z0f 8 (pv 8))))) z0m) z0m) z0m))) z0K))))
   (z0g (z2H PassesOwn.never rfl (pi_rng2 rfl T.b_range z0m (z1f rfl T.b_len (z0f 0 (pv 0)))) (z0l (i:=9) sc__law_table.nd rfl (Or.inl rfl)) (z0h (z4H (pt_gt (z1f rfl T.b_len (z0f 4 (pv 4))) z0m) (z0h (s_st0 (pv 7) (z4c (z0f 9 (pv 9)) (z1f rfl T.b_len (z0f 4 (pv 4)))) (z4c (z6k (z0D (z0f 7 (pv 7)) (z4c (z0f 9 (pv 9)) (z1f rfl T.b_len (z0f 4 (pv 4))))) (z0D (z0f 0 (pv 0)) (z0f 9 (pv 9)))) z0m))) z0K)))
   (z0g (z2H PassesOwn.never rfl (z2c rfl T.b_range (z1f rfl T.b_len (z0f 4 (pv 4)))) (z0l (i:=8) sc__law_table.nd rfl (Or.inl rfl)) (z0g (s_st1 (pv 3) (z0D (z0D (z0f 4 (pv 4)) (z0f 8 (pv 8))) z0m) (z0D (z0D (z0f 4 (pv 4)) (z0f 8 (pv 8))) z0m) (y8J hr.units (z0D (z0f 7 (pv 7)) (z0f 8 (pv 8))) z0m))
   (z0h (s_st1 (pv 3) (z0D (z0D (z0f 4 (pv 4)) (z0f 8 (pv 8))) z0m) (z0D (z0D (z0f 4 (pv 4)) (z0f 8 (pv 8))) z0m) (y8J hr.units (z0D (z0f 7 (pv 7)) (z0f 8 (pv 8))) z0m)))))
   (z0h (z8b (pv 3)))))))))))
theorem z9X : FnScope y1e z4T (z0b z2m):=⟨rfl,rfl,rfl,by decide +kernel,rfl,by decide +kernel,by decide +kernel⟩
theorem y0b {f : Addr} {fd : FuncData} (F : Fun K "_law_copy" "_law_copy" z2m f fd) (hm : mg "_law_copy" = some (.ref f)) (hb : Binds K fd z4T []) (T : Txt mg) : DefOk P w K mg base 1 "_law_copy" (spN K z2i):=
 z6q (k:=0) (g:=z4X) F hm hb z9X rfl rfl fun cdv A outer s H E hr=>
  (z0h (z2V (y1C (N':=["table", "row"])  rfl ⟨rfl,rfl,rfl,rfl,rfl⟩ (n:=1) rfl (z0N (z0f 0 (pv 0))) (fun _ _ _ _ _=>z0l (i:=1) nd15 rfl (Or.inl rfl)) (fun _ _ _ _ _=>z1B) (fun _ _ _ _ _=>(z6o (z6J rfl T.b_list (z0f 1 (pv 1))))))))
theorem sc__law_stand : FnScope z9x z4a (z0b z1P):=⟨rfl,rfl,rfl,by decide +kernel,rfl,by decide +kernel,by decide +kernel⟩
theorem z8g {f : Addr} {fd : FuncData} (F : Fun K "_law_stand" "_law_stand" z1P f fd) (hm : mg "_law_stand" = some (.ref f)) (hb : Binds K fd z4a []) (T : Txt mg) : DefOk P w K mg base 1 "_law_stand" (spN K z2B):=
 z6q (k:=0) (g:=z3V) F hm hb sc__law_stand rfl rfl fun cdv A outer s H E hr=>
  (z0g (z4n (z0P (i:=2) sc__law_stand.nd rfl (Or.inl rfl) (z0D (z0f 1 (pv 1)) z0m)))
   (z0g (z2H PassesOwn.never rfl (z0N (z4E (z2s (z0f 1 (pv 1)) (z2q z0m) z2v))) (z0l (i:=3) sc__law_stand.nd rfl (Or.inl rfl)) (z0h (z4H (z0y (z0D (z0D (z0f 0 (pv 0)) (z0f 3 (pv 3))) (z0f 2 (pv 2)))) (z0h (z4n (z0P (i:=2) sc__law_stand.nd rfl (Or.inl rfl) (z0f 3 (pv 3))))) z0K)))
   (z0h (z1m (z0f 2 (pv 2))))))
theorem sc__law_chain : FnScope z9J z4l (z0b z1R):=⟨rfl,rfl,rfl,by decide +kernel,rfl,by decide +kernel,by decide +kernel⟩
theorem z8p {f : Addr} {fd : FuncData} (F : Fun K "_law_chain" "_law_chain" z1R f fd) (hm : mg "_law_chain" = some (.ref f)) (hb : Binds K fd z4l []) (T : Txt mg) : DefOk P w K mg base 1 "_law_chain" (spN K z2x):=
 z6q (k:=0) (g:=z4f) F hm hb sc__law_chain rfl rfl fun cdv A outer s H E hr=>
  (z0g (z2E (z0P (i:=2) sc__law_chain.nd rfl (Or.inl rfl) (z6o (z0T z0e))))
   (z0g (z2H PassesOwn.never rfl (y0Y rfl T.b_reversed (z0f 1 (pv 1))) (z0l (i:=3) sc__law_chain.nd rfl (Or.inr rfl)) (z0h (z4H (z4W hr.units (z1f rfl T.b_len (z4E (z3Z (N':=["table", "order", "chain", "one", "other"])  rfl ⟨rfl,rfl,rfl,rfl,rfl⟩ (n:=4) rfl (z0N (z0f 2 (pv 2))) (fun _ _ _ _ _=>z0l (i:=4) nd16 rfl (Or.inl rfl)) (fun _ _ _ _ _=>z1E (z5M (z0y (z0D (z0D (z0f 0 (pv 0)) (z0f 3 (pv 3))) (z0f 4 (pv 4)))))) (fun _ _ _ _ _=>(z0f 4 (pv 4)))))) z0m) (z0h (s_m0 PySem.F.slot_list_insert PySem.F.type_list_insert y4T y6q (pv 2) (z0a z0m (z0a (z0f 3 (pv 3)) z0e)))) z0K)))
   (z0h (z8b (pv 2)))))
theorem sc__law_rest : FnScope y1L z4P (z0b z2l):=⟨rfl,rfl,rfl,by decide +kernel,rfl,by decide +kernel,by decide +kernel⟩
theorem z9U {f : Addr} {fd : FuncData} (F : Fun K "_law_rest" "_law_rest" z2l f fd) (hm : mg "_law_rest" = some (.ref f)) (hb : Binds K fd z4P []) (T : Txt mg) : DefOk P w K mg base 1 "_law_rest" (spN K z2W):=
 z6q (k:=0) (g:=z5b) F hm hb sc__law_rest rfl rfl fun cdv A outer s H E hr=>
  (z0g (z4n (z0P (i:=2) sc__law_rest.nd rfl (Or.inl rfl) (z0D (z0f 1 (pv 1)) (y2g z0m))))
   (z0g (z2H PassesOwn.never rfl (y0Y rfl T.b_reversed (z0f 1 (pv 1))) (z0l (i:=3) sc__law_rest.nd rfl (Or.inl rfl)) (z0h (z4H (z0y (z0D (z0D (z0f 0 (pv 0)) (z0f 3 (pv 3))) (z0f 2 (pv 2)))) (z0h (z4n (z0P (i:=2) sc__law_rest.nd rfl (Or.inl rfl) (z0f 3 (pv 3))))) z0K)))
   (z0h (z1m (z0f 2 (pv 2))))))
theorem y0T : FnScope y3B z5W (z0b z2K):=⟨rfl,rfl,rfl,by decide +kernel,rfl,by decide +kernel,by decide +kernel⟩
theorem y0R {f : Addr} {fd : FuncData} (F : Fun K "_law_led" "_law_led" z2K f fd) (hm : mg "_law_led" = some (.ref f)) (hb : Binds K fd z5W []) (T : Txt mg) (G__law_stand : DefOk P w K mg base 1 "_law_stand" (spN K z2B)) (G__law_chain : DefOk P w K mg base 1 "_law_chain" (spN K z2x)) (G__law_rest : DefOk P w K mg base 1 "_law_rest" (spN K z2W)) : DefOk P w K mg base 2 "_law_led" (spN K z0W):=
 z6q (k:=1) (g:=z3q) F hm hb y0T rfl rfl fun cdv A outer s H E hr=>
  (z0g (z4H (z4W hr.units (z0f 1 (pv 1)) z0M) (z0h (z2V (z0q G__law_stand (hr.mono (by decide)) rfl (z0a (z0f 0 (pv 0)) (z0a (z0f 2 (pv 2)) z0e))))) z0K)
   (z0g (z4H (z4W hr.units (z0f 1 (pv 1)) z0M) (z0h (z1m (z0D (z4F (z0q G__law_chain (hr.mono (by decide)) rfl (z0a (z0f 0 (pv 0)) (z0a (z0f 2 (pv 2)) z0e)))) z0m))) z0K)
   (z0h (z2V (z0q G__law_rest (hr.mono (by decide)) rfl (z0a (z0f 0 (pv 0)) (z0a (z0f 2 (pv 2)) z0e)))))))
theorem sc__law_orders : FnScope z8y z3D (z0b z1u):=⟨rfl,rfl,rfl,by decide +kernel,rfl,by decide +kernel,by decide +kernel⟩
theorem z7L {f : Addr} {fd : FuncData} (F : Fun K "_law_orders" "_law_orders" z1u f fd) (hm : mg "_law_orders" = some (.ref f)) (hb : Binds K fd z3D []) (T : Txt mg) : DefOk P w K mg base 1 "_law_orders" (spR K z1A):=
 defR (k:=0) (g:=z3K) F hm hb sc__law_orders rfl rfl fun cdv A outer s H E B hr=>
  (z0g (y7Y 3 (z1I (z0P (i:=1) sc__law_orders.nd rfl (Or.inl rfl) (z4F (pn_list (y8Y (z6o (z0T z0e)) pan_nil))))))
   (z0g (z2H PassesOwn.never rfl (z2c rfl T.b_range (z0f 0 (pv 0))) (z0l (i:=2) sc__law_orders.nd rfl (Or.inl rfl)) (z0g (z2E (z0P (i:=3) sc__law_orders.nd rfl (Or.inl rfl) (z6o (z0T z0e))))
   (z0g (z2H PassesOwn.never rfl (z0N (z0f 1 (pv 1))) (z0l (i:=4) sc__law_orders.nd rfl (Or.inl rfl)) (z0h (z2H PassesOwn.never rfl (z2c rfl T.b_range (z6k (z1f rfl T.b_len (z0f 4 (pv 4))) z0m)) (z0l (i:=5) sc__law_orders.nd rfl (Or.inl rfl)) (z0h (y6o (pv 3) (z6o (z6h (z4E (z6h (z4E (z2s (z0f 4 (pv 4)) z2v (z2q (z0f 5 (pv 5))))) (z4E (z0T (z0a (z0f 2 (pv 2)) z0e))))) (z4E (z2s (z0f 4 (pv 4)) (z2q (z0f 5 (pv 5))) z2v)))))))))
   (z0h (y7Y 3 (z1I (z0P (i:=1) sc__law_orders.nd rfl (Or.inl rfl) (z0f 3 (pv 3)))))))))
   (z0h (z2F (z0f 1 (pv 1))))))
theorem sc__law_unknown : FnScope z7C z3m (z0b z1i):=⟨rfl,rfl,rfl,by decide +kernel,rfl,by decide +kernel,by decide +kernel⟩
theorem z6Z {f : Addr} {fd : FuncData} (F : Fun K "_law_unknown" "_law_unknown" z1i f fd) (hm : mg "_law_unknown" = some (.ref f)) (hb : Binds K fd z3m []) (T : Txt mg) (Z : Cls K mg base cl) (G_can_be_had : DefX P w K mg base 18 "can_be_had" (spX K cl z0O)) : DefOk P w K mg base 19 "_law_unknown" (spN K z1h):=by
 obtain ⟨C_AskError,hc_AskError,O_AskError,nn_AskError,xb_AskError⟩:=Z.o_AskError
 obtain ⟨C_BadOrder,hc_BadOrder,O_BadOrder,nn_BadOrder,xb_BadOrder⟩:=Z.o_BadOrder
 obtain ⟨C_NotTop,hc_NotTop,O_NotTop,nn_NotTop,xb_NotTop⟩:=Z.o_NotTop
 obtain ⟨C_Unknown,hc_Unknown,O_Unknown,nn_Unknown,xb_Unknown⟩:=Z.o_Unknown
 exact z6q (k:=18) (g:=z3k) F hm hb sc__law_unknown rfl rfl fun cdv A outer s H E hr=>
  (z0g (s_try (gh:=(fun c=>match c with | 0=>fun _=>none | 1=>(y5l 2 "BadOrder" (z4k (d1 (y7P ["Unknown"] ["BadOrder", "NotTop", "Unknown"]) (z0c 2)))) | 2=>(y5l 2 "NotTop" (z4k (d1 (y7P ["Unknown"] ["BadOrder", "NotTop", "Unknown"]) (z0c 2)))) | 3=>(y5l 2 "Unknown" (z4k (d1 (y7P ["Unknown"] ["BadOrder", "NotTop", "Unknown"]) (z0c 2)))) | _ + 4=>fun _=>none)) rfl rfl (fun pn xe RX' hW=>(z0h (y0J (z5c G_can_be_had (hr.mono (by decide)) rfl hW (z0a (z0f 0 (pv 0)) (z0a (z0f 1 (pv 1)) z0e)))))) (fun c=>match c with | 0=>y2x (fun _=>rfl) | 1=>(by rw [hc_BadOrder]; exact y6R (i:=2) nn_BadOrder xb_BadOrder rfl O_AskError.bound (by have z:=Z.e_BadOrder_AskError _ hc_AskError; rw [hc_BadOrder] at z; exact z) sc__law_unknown.nd rfl rfl (fun _=>(z0h (z1m (y0H rfl O_Unknown.bound (Z.k_Unknown _ hc_Unknown) rfl T.b_isinstance (z0f 2 (pv 2))))))) | 2=>(by rw [hc_NotTop]; exact y6R (i:=2) nn_NotTop xb_NotTop rfl O_AskError.bound (by have z:=Z.e_NotTop_AskError _ hc_AskError; rw [hc_NotTop] at z; exact z) sc__law_unknown.nd rfl rfl (fun _=>(z0h (z1m (y0H rfl O_Unknown.bound (Z.k_Unknown _ hc_Unknown) rfl T.b_isinstance (z0f 2 (pv 2))))))) | 3=>(by rw [hc_Unknown]; exact y6R (i:=2) nn_Unknown xb_Unknown rfl O_AskError.bound (by have z:=Z.e_Unknown_AskError _ hc_AskError; rw [hc_Unknown] at z; exact z) sc__law_unknown.nd rfl rfl (fun _=>(z0h (z1m (y0H rfl O_Unknown.bound (Z.k_Unknown _ hc_Unknown) rfl T.b_isinstance (z0f 2 (pv 2))))))) | _ + 4=>y2x (fun _=>rfl)))
   (z0h (z1m z7H)))
theorem sc_law : FnScope N_law P_law (z0b z8X):=⟨rfl,rfl,rfl,by decide +kernel,rfl,by decide +kernel,by decide +kernel⟩
theorem ok_law {f : Addr} {fd : FuncData} (F : Fun K "law" "law" z8X f fd) (T : Txt mg) (Z : Cls K mg base cl) (G_brings : DefX P w K mg base 5 "brings" (spX K cl z1G)) (G_can_be_had : DefX P w K mg base 18 "can_be_had" (spX K cl z0O)) (G__law_cell_at : DefOk P w K mg base 1 "_law_cell_at" (spN K z0p)) (G__law_whole : DefOk P w K mg base 1 "_law_whole" (spN K z1L)) (G__law_table : DefOk P w K mg base 2 "_law_table" (spN K z1M)) (G__law_copy : DefOk P w K mg base 1 "_law_copy" (spN K z2i)) (G__law_led : DefOk P w K mg base 2 "_law_led" (spN K z0W)) (G__law_orders : DefOk P w K mg base 1 "_law_orders" (spR K z1A)) (G__law_unknown : DefOk P w K mg base 19 "_law_unknown" (spN K z1h)) : FnOk P w K mg base CX0 20 f fd P_law (spN K y4j):=
 fnN (k:=19) (g:=g_law) F sc_law rfl rfl fun cdv A outer s H E hr=>
  (z0g (z4n (z0P (i:=1) sc_law.nd rfl (Or.inl rfl) (z6k z0m (z4c (z4F (z0q G__law_cell_at (hr.mono (by decide)) rfl (z0a (z0f 0 (pv 0)) (z0a z0m z0e)))) z0m))))
   (z0g (z4H (z4W hr.units (z4c (x0v (z4F (z0q G__law_cell_at (hr.mono (by decide)) rfl (z0a (z0f 0 (pv 0)) (z0a z0m z0e)))) z0m) z0m) z0m) (z0h (z4n (z0P (i:=1) sc_law.nd rfl (Or.inl rfl) z0m))) z0K)
   (z0g (z1I (z0P (i:=2) sc_law.nd rfl (Or.inr rfl) (z4F (z0q G__law_table (hr.mono (by decide)) rfl (z0a (z0f 0 (pv 0)) (z0a (z0f 1 (pv 1)) z0e))))))
   (z0g (z1I (z0P (i:=3) sc_law.nd rfl (Or.inl rfl) (z4F (z0q G__law_copy (hr.mono (by decide)) rfl (z0a (z0f 2 (pv 2)) z0e)))))
   (z0g (z1I (z0P (i:=4) sc_law.nd rfl (Or.inl rfl) (z2I G__law_orders (hr.mono (by decide)) rfl (z0a (z0f 1 (pv 1)) z0e))))
   (z0g (z2H PassesOwn.never rfl (z0N (z4E (z0T (z0a z0M (z0a z0M (z0a z0M z0e)))))) (z0l (i:=5) sc_law.nd rfl (Or.inr rfl)) (z0g (z2E (z0P (i:=6) sc_law.nd rfl (Or.inr rfl) (y1C (N':=["script", "many", "table", "handed", "orders", "kind", "ends", "found", "one", "word", "order"])  rfl ⟨rfl,rfl,rfl,rfl,rfl⟩ (n:=10) rfl (z0N (z0f 4 (pv 4))) (fun _ _ _ _ _=>z0l (i:=10) nd18 rfl (Or.inl rfl)) (fun _ _ _ _ _=>z1B) (fun _ _ _ _ _=>(z0q G__law_led (hr.mono (by decide)) rfl (z0a (z0f 2 (pv 2)) (z0a (z0f 5 (pv 5)) (z0a (z0f 10 (pv 10)) z0e))))))))
   (z0g (z1I (z0P (i:=7) sc_law.nd rfl (Or.inl rfl) (z4F (z5n G_can_be_had (hr.mono (by decide)) rfl (z0a (z0f 3 (pv 3)) (z0a (z0f 5 (pv 5)) z0e))))))
   (z0g (z4H (PW.pt (y2G (z5M (z0y (y6x rfl T.b_list rfl T.b_isinstance (z0f 7 (pv 7))))) (z8r (y9k hr.units (z0f 7 (pv 7)) (z4E (z3Z (N':=["script", "many", "table", "handed", "orders", "kind", "ends", "found", "8", "word", "one"])  rfl ⟨rfl,rfl,rfl,rfl,rfl⟩ (n:=10) rfl (z2c rfl T.b_range (z0f 1 (pv 1))) (fun _ _ _ _ _=>z0l (i:=10) nd17 rfl (Or.inl rfl)) (fun _ _ _ _ _=>z1E (pt_in hr.units (z0f 10 (pv 10)) (z0f 6 (pv 6)))) (fun _ _ _ _ _=>(z0f 10 (pv 10))))))))) (z0h (z1m z7H)) z0K)
   (z0g (z2H PassesOwn.never rfl (z0N (z0f 7 (pv 7))) (z0l (i:=8) sc_law.nd rfl (Or.inl rfl)) (z0h (z4H (z5M (z0y (z4F (z0q G__law_whole (hr.mono (by decide)) rfl (z0a (z0f 8 (pv 8)) z0e))))) (z0h (z1m z7H)) z0K)))
   (z0h (z4H (PW.pt (y2G (y9k hr.units (z4F (z5n G_brings (hr.mono (by decide)) rfl (z0a (z0f 3 (pv 3)) (z0a (z0f 5 (pv 5)) (z0a (z4E (z6J rfl T.b_list (z0D (z0f 4 (pv 4)) z0m))) z0e))))) (z0D (z0f 6 (pv 6)) z0m)) (z8r (y9k hr.units (z4F (z5n G_brings (hr.mono (by decide)) rfl (z0a (z0f 3 (pv 3)) (z0a (z0f 5 (pv 5)) (z0a (z4E (z6J rfl T.b_list (z0D (z0f 4 (pv 4)) (y2g z0m)))) z0e))))) (z0D (z0f 6 (pv 6)) (y2g z0m)))))) (z0h (z1m z7H)) z0K)))))))
   (z0g (z4n (z0P (i:=9) sc_law.nd rfl (Or.inl rfl) (z0D (z4E (z0T (z0a z0M (z0a z0M (z0a z0M (z0a z0M (z0a z0M (z0a z0M z0e)))))))) (z4c (z4F (z0q G__law_cell_at (hr.mono (by decide)) rfl (z0a (z0f 0 (pv 0)) (z0a z0m z0e)))) z0m))))
   (z0h (z1m (z9O (z4F (z0q G__law_unknown (hr.mono (by decide)) rfl (z0a (z0f 3 (pv 3)) (z0a (z0f 9 (pv 9)) z0e)))) (y2q (y8J hr.units (z0f 3 (pv 3)) (z0f 2 (pv 2))))))))))))))
end
theorem all_mk {l : df} {w : World} {K : aa} {h : Heap} {mg : Str->Option Value} {fa : Addr} (X : K.In h) (G : h.Ns mainGlobals mg) (hfa : mg "law" = some (.ref fa))
  {f_beaten_by f_beats_all f_places_true f_is_thing f_tells_each_once f_order_asked f_winner f_last_standing f_chain_behind f_is_chain f_beaters f_stands f_crown_paper f_ended_chains f_reached f_steps_from f_rings f_places_with f_top_ring f_row_from f_begun_with f_round_of f_widened f_detour f_to_stand f_to_crown f_to_rest f_brings f_paper_for f_orders_to f_can_be_had f__law_cell_at f__law_whole f__law_table f__law_copy f__law_stand f__law_chain f__law_rest f__law_led f__law_orders f__law_unknown f_law : Addr} {od20 an20 : Option Addr} {sl20 : Array (Option Value)} {oc20 kV20 dc20 pm20 cd20 ct20 : Value} {od21 an21 : Option Addr} {sl21 : Array (Option Value)} {oc21 kV21 dc21 pm21 cd21 ct21 : Value} {od9 an9 : Option Addr} {sl9 : Array (Option Value)} {oc9 kV9 dc9 pm9 cd9 ct9 : Value} {od26 an26 : Option Addr} {sl26 : Array (Option Value)} {oc26 kV26 dc26 pm26 cd26 ct26 : Value} {od0 an0 : Option Addr} {sl0 : Array (Option Value)} {oc0 kV0 dc0 pm0 cd0 ct0 : Value} {od8 an8 : Option Addr} {sl8 : Array (Option Value)} {oc8 kV8 dc8 pm8 cd8 ct8 : Value} {od39 an39 : Option Addr} {sl39 : Array (Option Value)} {oc39 kV39 dc39 pm39 cd39 ct39 : Value} {od1 an1 : Option Addr} {sl1 : Array (Option Value)} {oc1 kV1 dc1 pm1 cd1 ct1 : Value} {od4 an4 : Option Addr} {sl4 : Array (Option Value)} {oc4 kV4 dc4 pm4 cd4 ct4 : Value} {od25 an25 : Option Addr} {sl25 : Array (Option Value)} {oc25 kV25 dc25 pm25 cd25 ct25 : Value} {od32 an32 : Option Addr} {sl32 : Array (Option Value)} {oc32 kV32 dc32 pm32 cd32 ct32 : Value} {od38 an38 : Option Addr} {sl38 : Array (Option Value)} {oc38 kV38 dc38 pm38 cd38 ct38 : Value} {od7 an7 : Option Addr} {sl7 : Array (Option Value)} {oc7 kV7 dc7 pm7 cd7 ct7 : Value} {od5 an5 : Option Addr} {sl5 : Array (Option Value)} {oc5 kV5 dc5 pm5 cd5 ct5 : Value} {od33 an33 : Option Addr} {sl33 : Array (Option Value)} {oc33 kV33 dc33 pm33 cd33 ct33 : Value} {od17 an17 : Option Addr} {sl17 : Array (Option Value)} {oc17 kV17 dc17 pm17 cd17 ct17 : Value} {od40 an40 : Option Addr} {sl40 : Array (Option Value)} {oc40 kV40 dc40 pm40 cd40 ct40 : Value} {od10 an10 : Option Addr} {sl10 : Array (Option Value)} {oc10 kV10 dc10 pm10 cd10 ct10 : Value} {od31 an31 : Option Addr} {sl31 : Array (Option Value)} {oc31 kV31 dc31 pm31 cd31 ct31 : Value} {od28 an28 : Option Addr} {sl28 : Array (Option Value)} {oc28 kV28 dc28 pm28 cd28 ct28 : Value} {od15 an15 : Option Addr} {sl15 : Array (Option Value)} {oc15 kV15 dc15 pm15 cd15 ct15 : Value} {od27 an27 : Option Addr} {sl27 : Array (Option Value)} {oc27 kV27 dc27 pm27 cd27 ct27 : Value} {od35 an35 : Option Addr} {sl35 : Array (Option Value)} {oc35 kV35 dc35 pm35 cd35 ct35 : Value} {od37 an37 : Option Addr} {sl37 : Array (Option Value)} {oc37 kV37 dc37 pm37 cd37 ct37 : Value} {od30 an30 : Option Addr} {sl30 : Array (Option Value)} {oc30 kV30 dc30 pm30 cd30 ct30 : Value} {od29 an29 : Option Addr} {sl29 : Array (Option Value)} {oc29 kV29 dc29 pm29 cd29 ct29 : Value} {od34 an34 : Option Addr} {sl34 : Array (Option Value)} {oc34 kV34 dc34 pm34 cd34 ct34 : Value} {od36 an36 : Option Addr} {sl36 : Array (Option Value)} {oc36 kV36 dc36 pm36 cd36 ct36 : Value} {od23 an23 : Option Addr} {sl23 : Array (Option Value)} {oc23 kV23 dc23 pm23 cd23 ct23 : Value} {od22 an22 : Option Addr} {sl22 : Array (Option Value)} {oc22 kV22 dc22 pm22 cd22 ct22 : Value} {od16 an16 : Option Addr} {sl16 : Array (Option Value)} {oc16 kV16 dc16 pm16 cd16 ct16 : Value} {od2 an2 : Option Addr} {sl2 : Array (Option Value)} {oc2 kV2 dc2 pm2 cd2 ct2 : Value} {od14 an14 : Option Addr} {sl14 : Array (Option Value)} {oc14 kV14 dc14 pm14 cd14 ct14 : Value} {od13 an13 : Option Addr} {sl13 : Array (Option Value)} {oc13 kV13 dc13 pm13 cd13 ct13 : Value} {od18 an18 : Option Addr} {sl18 : Array (Option Value)} {oc18 kV18 dc18 pm18 cd18 ct18 : Value} {od12 an12 : Option Addr} {sl12 : Array (Option Value)} {oc12 kV12 dc12 pm12 cd12 ct12 : Value} {od11 an11 : Option Addr} {sl11 : Array (Option Value)} {oc11 kV11 dc11 pm11 cd11 ct11 : Value} {od19 an19 : Option Addr} {sl19 : Array (Option Value)} {oc19 kV19 dc19 pm19 cd19 ct19 : Value} {od24 an24 : Option Addr} {sl24 : Array (Option Value)} {oc24 kV24 dc24 pm24 cd24 ct24 : Value} {od6 an6 : Option Addr} {sl6 : Array (Option Value)} {oc6 kV6 dc6 pm6 cd6 ct6 : Value} {od3 an3 : Option Addr} {sl3 : Array (Option Value)} {oc3 kV3 dc3 pm3 cd3 ct3 : Value} {od41 an41 : Option Addr} {sl41 : Array (Option Value)} {oc41 kV41 dc41 pm41 cd41 ct41 : Value} {C_AskError C_BadOrder C_NotTop C_Unknown : Addr}
  (a_beaten_by : ag K mainGlobals "beaten_by" = some (some (.ref f_beaten_by))) (l_beaten_by : K.lookup f_beaten_by=some ⟨oc20,od20,.func (aA "beaten_by" "beaten_by" (z0n z2n) (z0i z2n) (z0b z2n) .none kV20 dc20 pm20 an20 cd20 ct20),sl20⟩) (c_beaten_by : aw K cd20 "beaten_by" = true) (k_beaten_by : ao K (.ref f_beaten_by)=true)
  (a_beats_all : ag K mainGlobals "beats_all" = some (some (.ref f_beats_all))) (l_beats_all : K.lookup f_beats_all=some ⟨oc21,od21,.func (aA "beats_all" "beats_all" (z0n z2d) (z0i z2d) (z0b z2d) .none kV21 dc21 pm21 an21 cd21 ct21),sl21⟩) (c_beats_all : aw K cd21 "beats_all" = true) (k_beats_all : ao K (.ref f_beats_all)=true)
  (a_places_true : ag K mainGlobals "places_true" = some (some (.ref f_places_true))) (l_places_true : K.lookup f_places_true=some ⟨oc9,od9,.func (aA "places_true" "places_true" (z0n z1w) (z0i z1w) (z0b z1w) .none kV9 dc9 pm9 an9 cd9 ct9),sl9⟩) (c_places_true : aw K cd9 "places_true" = true) (k_places_true : ao K (.ref f_places_true)=true)
  (a_is_thing : ag K mainGlobals "is_thing" = some (some (.ref f_is_thing))) (l_is_thing : K.lookup f_is_thing=some ⟨oc26,od26,.func (aA "is_thing" "is_thing" (z0n z2T) (z0i z2T) (z0b z2T) .none kV26 dc26 pm26 an26 cd26 ct26),sl26⟩) (c_is_thing : aw K cd26 "is_thing" = true) (k_is_thing : ao K (.ref f_is_thing)=true)
  (a_tells_each_once : ag K mainGlobals "tells_each_once" = some (some (.ref f_tells_each_once))) (l_tells_each_once : K.lookup f_tells_each_once=some ⟨oc0,od0,.func (aA "tells_each_once" "tells_each_once" (z0n z0L) (z0i z0L) (z0b z0L) .none kV0 dc0 pm0 an0 cd0 ct0),sl0⟩) (c_tells_each_once : aw K cd0 "tells_each_once" = true) (k_tells_each_once : ao K (.ref f_tells_each_once)=true)
  (a_order_asked : ag K mainGlobals "order_asked" = some (some (.ref f_order_asked))) (l_order_asked : K.lookup f_order_asked=some ⟨oc8,od8,.func (aA "order_asked" "order_asked" (z0n z1v) (z0i z1v) (z0b z1v) .none kV8 dc8 pm8 an8 cd8 ct8),sl8⟩) (c_order_asked : aw K cd8 "order_asked" = true) (k_order_asked : ao K (.ref f_order_asked)=true)
  (a_winner : ag K mainGlobals "winner" = some (some (.ref f_winner))) (l_winner : K.lookup f_winner=some ⟨oc39,od39,.func (aA "winner" "winner" (z0n z4D) (z0i z4D) (z0b z4D) .none kV39 dc39 pm39 an39 cd39 ct39),sl39⟩) (c_winner : aw K cd39 "winner" = true) (k_winner : ao K (.ref f_winner)=true)
  (a_last_standing : ag K mainGlobals "last_standing" = some (some (.ref f_last_standing))) (l_last_standing : K.lookup f_last_standing=some ⟨oc1,od1,.func (aA "last_standing" "last_standing" (z0n z0U) (z0i z0U) (z0b z0U) .none kV1 dc1 pm1 an1 cd1 ct1),sl1⟩) (c_last_standing : aw K cd1 "last_standing" = true) (k_last_standing : ao K (.ref f_last_standing)=true)
  (a_chain_behind : ag K mainGlobals "chain_behind" = some (some (.ref f_chain_behind))) (l_chain_behind : K.lookup f_chain_behind=some ⟨oc4,od4,.func (aA "chain_behind" "chain_behind" (z0n z1k) (z0i z1k) (z0b z1k) .none kV4 dc4 pm4 an4 cd4 ct4),sl4⟩) (c_chain_behind : aw K cd4 "chain_behind" = true) (k_chain_behind : ao K (.ref f_chain_behind)=true)
  (a_is_chain : ag K mainGlobals "is_chain" = some (some (.ref f_is_chain))) (l_is_chain : K.lookup f_is_chain=some ⟨oc25,od25,.func (aA "is_chain" "is_chain" (z0n z2O) (z0i z2O) (z0b z2O) .none kV25 dc25 pm25 an25 cd25 ct25),sl25⟩) (c_is_chain : aw K cd25 "is_chain" = true) (k_is_chain : ao K (.ref f_is_chain)=true)
  (a_beaters : ag K mainGlobals "beaters" = some (some (.ref f_beaters))) (l_beaters : K.lookup f_beaters=some ⟨oc32,od32,.func (aA "beaters" "beaters" (z0n z3r) (z0i z3r) (z0b z3r) .none kV32 dc32 pm32 an32 cd32 ct32),sl32⟩) (c_beaters : aw K cd32 "beaters" = true) (k_beaters : ao K (.ref f_beaters)=true)
  (a_stands : ag K mainGlobals "stands" = some (some (.ref f_stands))) (l_stands : K.lookup f_stands=some ⟨oc38,od38,.func (aA "stands" "stands" (z0n z4z) (z0i z4z) (z0b z4z) .none kV38 dc38 pm38 an38 cd38 ct38),sl38⟩) (c_stands : aw K cd38 "stands" = true) (k_stands : ao K (.ref f_stands)=true)
  (a_crown_paper : ag K mainGlobals "crown_paper" = some (some (.ref f_crown_paper))) (l_crown_paper : K.lookup f_crown_paper=some ⟨oc7,od7,.func (aA "crown_paper" "crown_paper" (z0n z1x) (z0i z1x) (z0b z1x) .none kV7 dc7 pm7 an7 cd7 ct7),sl7⟩) (c_crown_paper : aw K cd7 "crown_paper" = true) (k_crown_paper : ao K (.ref f_crown_paper)=true)
  (a_ended_chains : ag K mainGlobals "ended_chains" = some (some (.ref f_ended_chains))) (l_ended_chains : K.lookup f_ended_chains=some ⟨oc5,od5,.func (aA "ended_chains" "ended_chains" (z0n z0R) (z0i z0R) (z0b z0R) .none kV5 dc5 pm5 an5 cd5 ct5),sl5⟩) (c_ended_chains : aw K cd5 "ended_chains" = true) (k_ended_chains : ao K (.ref f_ended_chains)=true)
  (a_reached : ag K mainGlobals "reached" = some (some (.ref f_reached))) (l_reached : K.lookup f_reached=some ⟨oc33,od33,.func (aA "reached" "reached" (z0n z3t) (z0i z3t) (z0b z3t) .none kV33 dc33 pm33 an33 cd33 ct33),sl33⟩) (c_reached : aw K cd33 "reached" = true) (k_reached : ao K (.ref f_reached)=true)
  (a_steps_from : ag K mainGlobals "steps_from" = some (some (.ref f_steps_from))) (l_steps_from : K.lookup f_steps_from=some ⟨oc17,od17,.func (aA "steps_from" "steps_from" (z0n z1K) (z0i z1K) (z0b z1K) .none kV17 dc17 pm17 an17 cd17 ct17),sl17⟩) (c_steps_from : aw K cd17 "steps_from" = true) (k_steps_from : ao K (.ref f_steps_from)=true)
  (a_rings : ag K mainGlobals "rings" = some (some (.ref f_rings))) (l_rings : K.lookup f_rings=some ⟨oc40,od40,.func (aA "rings" "rings" (z0n z5X) (z0i z5X) (z0b z5X) .none kV40 dc40 pm40 an40 cd40 ct40),sl40⟩) (c_rings : aw K cd40 "rings" = true) (k_rings : ao K (.ref f_rings)=true)
  (a_places_with : ag K mainGlobals "places_with" = some (some (.ref f_places_with))) (l_places_with : K.lookup f_places_with=some ⟨oc10,od10,.func (aA "places_with" "places_with" (z0n z1y) (z0i z1y) (z0b z1y) .none kV10 dc10 pm10 an10 cd10 ct10),sl10⟩) (c_places_with : aw K cd10 "places_with" = true) (k_places_with : ao K (.ref f_places_with)=true)
  (a_top_ring : ag K mainGlobals "top_ring" = some (some (.ref f_top_ring))) (l_top_ring : K.lookup f_top_ring=some ⟨oc31,od31,.func (aA "top_ring" "top_ring" (z0n z2S) (z0i z2S) (z0b z2S) .none kV31 dc31 pm31 an31 cd31 ct31),sl31⟩) (c_top_ring : aw K cd31 "top_ring" = true) (k_top_ring : ao K (.ref f_top_ring)=true)
  (a_row_from : ag K mainGlobals "row_from" = some (some (.ref f_row_from))) (l_row_from : K.lookup f_row_from=some ⟨oc28,od28,.func (aA "row_from" "row_from" (z0n z2M) (z0i z2M) (z0b z2M) .none kV28 dc28 pm28 an28 cd28 ct28),sl28⟩) (c_row_from : aw K cd28 "row_from" = true) (k_row_from : ao K (.ref f_row_from)=true)
  (a_begun_with : ag K mainGlobals "begun_with" = some (some (.ref f_begun_with))) (l_begun_with : K.lookup f_begun_with=some ⟨oc15,od15,.func (aA "begun_with" "begun_with" (z0n z1N) (z0i z1N) (z0b z1N) .none kV15 dc15 pm15 an15 cd15 ct15),sl15⟩) (c_begun_with : aw K cd15 "begun_with" = true) (k_begun_with : ao K (.ref f_begun_with)=true)
  (a_round_of : ag K mainGlobals "round_of" = some (some (.ref f_round_of))) (l_round_of : K.lookup f_round_of=some ⟨oc27,od27,.func (aA "round_of" "round_of" (z0n z2Q) (z0i z2Q) (z0b z2Q) .none kV27 dc27 pm27 an27 cd27 ct27),sl27⟩) (c_round_of : aw K cd27 "round_of" = true) (k_round_of : ao K (.ref f_round_of)=true)
  (a_widened : ag K mainGlobals "widened" = some (some (.ref f_widened))) (l_widened : K.lookup f_widened=some ⟨oc35,od35,.func (aA "widened" "widened" (z0n z3z) (z0i z3z) (z0b z3z) .none kV35 dc35 pm35 an35 cd35 ct35),sl35⟩) (c_widened : aw K cd35 "widened" = true) (k_widened : ao K (.ref f_widened)=true)
  (a_detour : ag K mainGlobals "detour" = some (some (.ref f_detour))) (l_detour : K.lookup f_detour=some ⟨oc37,od37,.func (aA "detour" "detour" (z0n z4s) (z0i z4s) (z0b z4s) .none kV37 dc37 pm37 an37 cd37 ct37),sl37⟩) (c_detour : aw K cd37 "detour" = true) (k_detour : ao K (.ref f_detour)=true)
  (a_to_stand : ag K mainGlobals "to_stand" = some (some (.ref f_to_stand))) (l_to_stand : K.lookup f_to_stand=some ⟨oc30,od30,.func (aA "to_stand" "to_stand" (z0n z2P) (z0i z2P) (z0b z2P) .none kV30 dc30 pm30 an30 cd30 ct30),sl30⟩) (c_to_stand : aw K cd30 "to_stand" = true) (k_to_stand : ao K (.ref f_to_stand)=true)
  (a_to_crown : ag K mainGlobals "to_crown" = some (some (.ref f_to_crown))) (l_to_crown : K.lookup f_to_crown=some ⟨oc29,od29,.func (aA "to_crown" "to_crown" (z0n z2L) (z0i z2L) (z0b z2L) .none kV29 dc29 pm29 an29 cd29 ct29),sl29⟩) (c_to_crown : aw K cd29 "to_crown" = true) (k_to_crown : ao K (.ref f_to_crown)=true)
  (a_to_rest : ag K mainGlobals "to_rest" = some (some (.ref f_to_rest))) (l_to_rest : K.lookup f_to_rest=some ⟨oc34,od34,.func (aA "to_rest" "to_rest" (z0n z3s) (z0i z3s) (z0b z3s) .none kV34 dc34 pm34 an34 cd34 ct34),sl34⟩) (c_to_rest : aw K cd34 "to_rest" = true) (k_to_rest : ao K (.ref f_to_rest)=true)
  (a_brings : ag K mainGlobals "brings" = some (some (.ref f_brings))) (l_brings : K.lookup f_brings=some ⟨oc36,od36,.func (aA "brings" "brings" (z0n z4y) (z0i z4y) (z0b z4y) .none kV36 dc36 pm36 an36 cd36 ct36),sl36⟩) (c_brings : aw K cd36 "brings" = true) (k_brings : ao K (.ref f_brings)=true)
  (a_paper_for : ag K mainGlobals "paper_for" = some (some (.ref f_paper_for))) (l_paper_for : K.lookup f_paper_for=some ⟨oc23,od23,.func (aA "paper_for" "paper_for" (z0n z2h) (z0i z2h) (z0b z2h) .none kV23 dc23 pm23 an23 cd23 ct23),sl23⟩) (c_paper_for : aw K cd23 "paper_for" = true) (k_paper_for : ao K (.ref f_paper_for)=true)
  (a_orders_to : ag K mainGlobals "orders_to" = some (some (.ref f_orders_to))) (l_orders_to : K.lookup f_orders_to=some ⟨oc22,od22,.func (aA "orders_to" "orders_to" (z0n z2k) (z0i z2k) (z0b z2k) .none kV22 dc22 pm22 an22 cd22 ct22),sl22⟩) (c_orders_to : aw K cd22 "orders_to" = true) (k_orders_to : ao K (.ref f_orders_to)=true)
  (a_can_be_had : ag K mainGlobals "can_be_had" = some (some (.ref f_can_be_had))) (l_can_be_had : K.lookup f_can_be_had=some ⟨oc16,od16,.func (aA "can_be_had" "can_be_had" (z0n z1J) (z0i z1J) (z0b z1J) .none kV16 dc16 pm16 an16 cd16 ct16),sl16⟩) (c_can_be_had : aw K cd16 "can_be_had" = true) (k_can_be_had : ao K (.ref f_can_be_had)=true)
  (a__law_cell_at : ag K mainGlobals "_law_cell_at" = some (some (.ref f__law_cell_at))) (l__law_cell_at : K.lookup f__law_cell_at=some ⟨oc2,od2,.func (aA "_law_cell_at" "_law_cell_at" (z0n z1j) (z0i z1j) (z0b z1j) .none kV2 dc2 pm2 an2 cd2 ct2),sl2⟩) (c__law_cell_at : aw K cd2 "_law_cell_at" = true) (k__law_cell_at : ao K (.ref f__law_cell_at)=true)
  (a__law_whole : ag K mainGlobals "_law_whole" = some (some (.ref f__law_whole))) (l__law_whole : K.lookup f__law_whole=some ⟨oc14,od14,.func (aA "_law_whole" "_law_whole" (z0n z1Q) (z0i z1Q) (z0b z1Q) .none kV14 dc14 pm14 an14 cd14 ct14),sl14⟩) (c__law_whole : aw K cd14 "_law_whole" = true) (k__law_whole : ao K (.ref f__law_whole)=true)
  (a__law_table : ag K mainGlobals "_law_table" = some (some (.ref f__law_table))) (l__law_table : K.lookup f__law_table=some ⟨oc13,od13,.func (aA "_law_table" "_law_table" (z0n z1O) (z0i z1O) (z0b z1O) .none kV13 dc13 pm13 an13 cd13 ct13),sl13⟩) (c__law_table : aw K cd13 "_law_table" = true) (k__law_table : ao K (.ref f__law_table)=true)
  (a__law_copy : ag K mainGlobals "_law_copy" = some (some (.ref f__law_copy))) (l__law_copy : K.lookup f__law_copy=some ⟨oc18,od18,.func (aA "_law_copy" "_law_copy" (z0n z2m) (z0i z2m) (z0b z2m) .none kV18 dc18 pm18 an18 cd18 ct18),sl18⟩) (c__law_copy : aw K cd18 "_law_copy" = true) (k__law_copy : ao K (.ref f__law_copy)=true)
  (a__law_stand : ag K mainGlobals "_law_stand" = some (some (.ref f__law_stand))) (l__law_stand : K.lookup f__law_stand=some ⟨oc12,od12,.func (aA "_law_stand" "_law_stand" (z0n z1P) (z0i z1P) (z0b z1P) .none kV12 dc12 pm12 an12 cd12 ct12),sl12⟩) (c__law_stand : aw K cd12 "_law_stand" = true) (k__law_stand : ao K (.ref f__law_stand)=true)
  (a__law_chain : ag K mainGlobals "_law_chain" = some (some (.ref f__law_chain))) (l__law_chain : K.lookup f__law_chain=some ⟨oc11,od11,.func (aA "_law_chain" "_law_chain" (z0n z1R) (z0i z1R) (z0b z1R) .none kV11 dc11 pm11 an11 cd11 ct11),sl11⟩) (c__law_chain : aw K cd11 "_law_chain" = true) (k__law_chain : ao K (.ref f__law_chain)=true)
  (a__law_rest : ag K mainGlobals "_law_rest" = some (some (.ref f__law_rest))) (l__law_rest : K.lookup f__law_rest=some ⟨oc19,od19,.func (aA "_law_rest" "_law_rest" (z0n z2l) (z0i z2l) (z0b z2l) .none kV19 dc19 pm19 an19 cd19 ct19),sl19⟩) (c__law_rest : aw K cd19 "_law_rest" = true) (k__law_rest : ao K (.ref f__law_rest)=true)
  (a__law_led : ag K mainGlobals "_law_led" = some (some (.ref f__law_led))) (l__law_led : K.lookup f__law_led=some ⟨oc24,od24,.func (aA "_law_led" "_law_led" (z0n z2K) (z0i z2K) (z0b z2K) .none kV24 dc24 pm24 an24 cd24 ct24),sl24⟩) (c__law_led : aw K cd24 "_law_led" = true) (k__law_led : ao K (.ref f__law_led)=true)
  (a__law_orders : ag K mainGlobals "_law_orders" = some (some (.ref f__law_orders))) (l__law_orders : K.lookup f__law_orders=some ⟨oc6,od6,.func (aA "_law_orders" "_law_orders" (z0n z1u) (z0i z1u) (z0b z1u) .none kV6 dc6 pm6 an6 cd6 ct6),sl6⟩) (c__law_orders : aw K cd6 "_law_orders" = true) (k__law_orders : ao K (.ref f__law_orders)=true)
  (a__law_unknown : ag K mainGlobals "_law_unknown" = some (some (.ref f__law_unknown))) (l__law_unknown : K.lookup f__law_unknown=some ⟨oc3,od3,.func (aA "_law_unknown" "_law_unknown" (z0n z1i) (z0i z1i) (z0b z1i) .none kV3 dc3 pm3 an3 cd3 ct3),sl3⟩) (c__law_unknown : aw K cd3 "_law_unknown" = true) (k__law_unknown : ao K (.ref f__law_unknown)=true)
  (a_law : ag K mainGlobals "law" = some (some (.ref f_law))) (l_law : K.lookup f_law=some ⟨oc41,od41,.func (aA "law" "law" (z0n z8X) (z0i z8X) (z0b z8X) .none kV41 dc41 pm41 an41 cd41 ct41),sl41⟩) (c_law : aw K cd41 "law" = true) (k_law : ao K (.ref f_law)=true)
  (x_AskError : ag K mainGlobals "AskError" = some (some (.ref C_AskError))) (q_AskError : bX K C_AskError y9i "ValueError.__new__" = true)
  (x_BadOrder : ag K mainGlobals "BadOrder" = some (some (.ref C_BadOrder))) (q_BadOrder : bX K C_BadOrder y9i "ValueError.__new__" = true)
  (x_NotTop : ag K mainGlobals "NotTop" = some (some (.ref C_NotTop))) (q_NotTop : bX K C_NotTop y9i "ValueError.__new__" = true)
  (x_Unknown : ag K mainGlobals "Unknown" = some (some (.ref C_Unknown))) (q_Unknown : bX K C_Unknown y9i "ValueError.__new__" = true)
  (e_BadOrder_AskError : bF K (.ref C_BadOrder) (.ref C_AskError)=some true) (e_NotTop_AskError : bF K (.ref C_NotTop) (.ref C_AskError)=some true) (e_Unknown_AskError : bF K (.ref C_Unknown) (.ref C_AskError)=some true)
  (xb_AskError : z5e K C_AskError=true) (xb_BadOrder : z5e K C_BadOrder=true) (xb_NotTop : z5e K C_NotTop=true) (xb_Unknown : z5e K C_Unknown=true)
  (t_BadOrder_Unknown : bc K (.ref C_BadOrder) (.ref C_Unknown)=some false) (t_NotTop_Unknown : bc K (.ref C_NotTop) (.ref C_Unknown)=some false) (t_Unknown_Unknown : bc K (.ref C_Unknown) (.ref C_Unknown)=some true)
  (z_all : ag K mainGlobals "all" = some none) (z_enumerate : ag K mainGlobals "enumerate" = some none) (z_int : ag K mainGlobals "int" = some none) (z_isinstance : ag K mainGlobals "isinstance" = some none) (z_bool : ag K mainGlobals "bool" = some none) (z_len : ag K mainGlobals "len" = some none) (z_reversed : ag K mainGlobals "reversed" = some none) (z_range : ag K mainGlobals "range" = some none) (z_sorted : ag K mainGlobals "sorted" = some none) (z_min : ag K mainGlobals "min" = some none) (z_list : ag K mainGlobals "list" = some none) :
  ∃ fd : FuncData,(∀ (s : Shared) (v : Value),BindsTo s fd ⟨[v],[]⟩ [("script",v)])∧∀ base : Heap,K.In base->base.Ns mainGlobals mg->FnOk l.prog w K mg base CX0 20 fa fd ["script"] (y8g K y4j):=by
 have e:=hfa.symm.trans (aB X G a_law)
 cases e
 have T : Txt mg:=⟨aX X G z_all,aX X G z_enumerate,aX X G z_int,aX X G z_isinstance,aX X G z_bool,aX X G z_len,aX X G z_reversed,aX X G z_range,aX X G z_sorted,aX X G z_min,aX X G z_list⟩
 have F_beaten_by:=z0z (st:=z2n) l_beaten_by c_beaten_by k_beaten_by
 have b_beaten_by:=F_beaten_by.binds (ps:=z5i) fun _ _ _ _ _ _ us hl=>match us,hl with | [_,_],_=>rfl
 have F_beats_all:=z0z (st:=z2d) l_beats_all c_beats_all k_beats_all
 have b_beats_all:=F_beats_all.binds (ps:=z5g) fun _ _ _ _ _ _ us hl=>match us,hl with | [_,_,_],_=>rfl
 have F_places_true:=z0z (st:=z1w) l_places_true c_places_true k_places_true
 have b_places_true:=F_places_true.binds (ps:=z3L) fun _ _ _ _ _ _ us hl=>match us,hl with | [_],_=>rfl
 have F_is_thing:=z0z (st:=z2T) l_is_thing c_is_thing k_is_thing
 have b_is_thing:=F_is_thing.binds (ps:=z5O) fun _ _ _ _ _ _ us hl=>match us,hl with | [_,_],_=>rfl
 have F_tells_each_once:=z0z (st:=z0L) l_tells_each_once c_tells_each_once k_tells_each_once
 have b_tells_each_once:=F_tells_each_once.binds (ps:=z2j) fun _ _ _ _ _ _ us hl=>match us,hl with | [_,_],_=>rfl
 have F_order_asked:=z0z (st:=z1v) l_order_asked c_order_asked k_order_asked
 have b_order_asked:=F_order_asked.binds (ps:=z2J) fun _ _ _ _ _ _ us hl=>match us,hl with | [_,_],_=>rfl
 have F_winner:=z0z (st:=z4D) l_winner c_winner k_winner
 have b_winner:=F_winner.binds (ps:=z8u) fun _ _ _ _ _ _ us hl=>match us,hl with | [_,_,_],_=>rfl
 have F_last_standing:=z0z (st:=z0U) l_last_standing c_last_standing k_last_standing
 have b_last_standing:=F_last_standing.binds (ps:=z1X) fun _ _ _ _ _ _ us hl=>match us,hl with | [_,_],_=>rfl
 have F_chain_behind:=z0z (st:=z1k) l_chain_behind c_chain_behind k_chain_behind
 have b_chain_behind:=F_chain_behind.binds (ps:=z2t) fun _ _ _ _ _ _ us hl=>match us,hl with | [_,_],_=>rfl
 have F_is_chain:=z0z (st:=z2O) l_is_chain c_is_chain k_is_chain
 have b_is_chain:=F_is_chain.binds (ps:=z5T) fun _ _ _ _ _ _ us hl=>match us,hl with | [_,_],_=>rfl
 have F_beaters:=z0z (st:=z3r) l_beaters c_beaters k_beaters
 have b_beaters:=F_beaters.binds (ps:=z6M) fun _ _ _ _ _ _ us hl=>match us,hl with | [_,_],_=>rfl
 have F_stands:=z0z (st:=z4z) l_stands c_stands k_stands
 have b_stands:=F_stands.binds (ps:=z8o) fun _ _ _ _ _ _ us hl=>match us,hl with | [_,_],_=>rfl
 have F_crown_paper:=z0z (st:=z1x) l_crown_paper c_crown_paper k_crown_paper
 have b_crown_paper:=F_crown_paper.binds (ps:=z3P) fun _ _ _ _ _ _ us hl=>match us,hl with | [_,_],_=>rfl
 have F_ended_chains:=z0z (st:=z0R) l_ended_chains c_ended_chains k_ended_chains
 have b_ended_chains:=F_ended_chains.binds (ps:=z2p) fun _ _ _ _ _ _ us hl=>match us,hl with | [_,_,_],_=>rfl
 have F_reached:=z0z (st:=z3t) l_reached c_reached k_reached
 have b_reached:=F_reached.binds (ps:=z6I) fun _ _ _ _ _ _ us hl=>match us,hl with | [_,_],_=>rfl
 have F_steps_from:=z0z (st:=z1K) l_steps_from c_steps_from k_steps_from
 have b_steps_from:=F_steps_from.binds (ps:=z4d) fun _ _ _ _ _ _ us hl=>match us,hl with | [_,_],_=>rfl
 have F_rings:=z0z (st:=z5X) l_rings c_rings k_rings
 have b_rings:=F_rings.binds (ps:=y1u) fun _ _ _ _ _ _ us hl=>match us,hl with | [_],_=>rfl
 have F_places_with:=z0z (st:=z1y) l_places_with c_places_with k_places_with
 have b_places_with:=F_places_with.binds (ps:=z3C) fun _ _ _ _ _ _ us hl=>match us,hl with | [_,_],_=>rfl
 have F_top_ring:=z0z (st:=z2S) l_top_ring c_top_ring k_top_ring
 have b_top_ring:=F_top_ring.binds (ps:=z6d) fun _ _ _ _ _ _ us hl=>match us,hl with | [_],_=>rfl
 have F_row_from:=z0z (st:=z2M) l_row_from c_row_from k_row_from
 have b_row_from:=F_row_from.binds (ps:=z4q) fun _ _ _ _ _ _ us hl=>match us,hl with | [_,_],_=>rfl
 have F_begun_with:=z0z (st:=z1N) l_begun_with c_begun_with k_begun_with
 have b_begun_with:=F_begun_with.binds (ps:=z4i) fun _ _ _ _ _ _ us hl=>match us,hl with | [_,_],_=>rfl
 have F_round_of:=z0z (st:=z2Q) l_round_of c_round_of k_round_of
 have b_round_of:=F_round_of.binds (ps:=z5I) fun _ _ _ _ _ _ us hl=>match us,hl with | [_,_],_=>rfl
 have F_widened:=z0z (st:=z3z) l_widened c_widened k_widened
 have b_widened:=F_widened.binds (ps:=z6Y) fun _ _ _ _ _ _ us hl=>match us,hl with | [_,_,_],_=>rfl
 have F_detour:=z0z (st:=z4s) l_detour c_detour k_detour
 have b_detour:=F_detour.binds (ps:=z8J) fun _ _ _ _ _ _ us hl=>match us,hl with | [_,_,_,_],_=>rfl
 have F_to_stand:=z0z (st:=z2P) l_to_stand c_to_stand k_to_stand
 have b_to_stand:=F_to_stand.binds (ps:=z6a) fun _ _ _ _ _ _ us hl=>match us,hl with | [_,_],_=>rfl
 have F_to_crown:=z0z (st:=z2L) l_to_crown c_to_crown k_to_crown
 have b_to_crown:=F_to_crown.binds (ps:=z5P) fun _ _ _ _ _ _ us hl=>match us,hl with | [_,_],_=>rfl
 have F_to_rest:=z0z (st:=z3s) l_to_rest c_to_rest k_to_rest
 have b_to_rest:=F_to_rest.binds (ps:=z6Q) fun _ _ _ _ _ _ us hl=>match us,hl with | [_,_],_=>rfl
 have F_brings:=z0z (st:=z4y) l_brings c_brings k_brings
 have b_brings:=F_brings.binds (ps:=z6H) fun _ _ _ _ _ _ us hl=>match us,hl with | [_,_,_],_=>rfl
 have F_paper_for:=z0z (st:=z2h) l_paper_for c_paper_for k_paper_for
 have b_paper_for:=F_paper_for.binds (ps:=z3N) fun _ _ _ _ _ _ us hl=>match us,hl with | [_,_,_],_=>rfl
 have F_orders_to:=z0z (st:=z2k) l_orders_to c_orders_to k_orders_to
 have b_orders_to:=F_orders_to.binds (ps:=z3I) fun _ _ _ _ _ _ us hl=>match us,hl with | [_,_],_=>rfl
 have F_can_be_had:=z0z (st:=z1J) l_can_be_had c_can_be_had k_can_be_had
 have b_can_be_had:=F_can_be_had.binds (ps:=z3c) fun _ _ _ _ _ _ us hl=>match us,hl with | [_,_],_=>rfl
 have F__law_cell_at:=z0z (st:=z1j) l__law_cell_at c__law_cell_at k__law_cell_at
 have b__law_cell_at:=F__law_cell_at.binds (ps:=z3n) fun _ _ _ _ _ _ us hl=>match us,hl with | [_,_],_=>rfl
 have F__law_whole:=z0z (st:=z1Q) l__law_whole c__law_whole k__law_whole
 have b__law_whole:=F__law_whole.binds (ps:=z4o) fun _ _ _ _ _ _ us hl=>match us,hl with | [_],_=>rfl
 have F__law_table:=z0z (st:=z1O) l__law_table c__law_table k__law_table
 have b__law_table:=F__law_table.binds (ps:=z4b) fun _ _ _ _ _ _ us hl=>match us,hl with | [_,_],_=>rfl
 have F__law_copy:=z0z (st:=z2m) l__law_copy c__law_copy k__law_copy
 have b__law_copy:=F__law_copy.binds (ps:=z4T) fun _ _ _ _ _ _ us hl=>match us,hl with | [_],_=>rfl
 have F__law_stand:=z0z (st:=z1P) l__law_stand c__law_stand k__law_stand
 have b__law_stand:=F__law_stand.binds (ps:=z4a) fun _ _ _ _ _ _ us hl=>match us,hl with | [_,_],_=>rfl
 have F__law_chain:=z0z (st:=z1R) l__law_chain c__law_chain k__law_chain
 have b__law_chain:=F__law_chain.binds (ps:=z4l) fun _ _ _ _ _ _ us hl=>match us,hl with | [_,_],_=>rfl
 have F__law_rest:=z0z (st:=z2l) l__law_rest c__law_rest k__law_rest
 have b__law_rest:=F__law_rest.binds (ps:=z4P) fun _ _ _ _ _ _ us hl=>match us,hl with | [_,_],_=>rfl
 have F__law_led:=z0z (st:=z2K) l__law_led c__law_led k__law_led
 have b__law_led:=F__law_led.binds (ps:=z5W) fun _ _ _ _ _ _ us hl=>match us,hl with | [_,_,_],_=>rfl
 have F__law_orders:=z0z (st:=z1u) l__law_orders c__law_orders k__law_orders
 have b__law_orders:=F__law_orders.binds (ps:=z3D) fun _ _ _ _ _ _ us hl=>match us,hl with | [_],_=>rfl
 have F__law_unknown:=z0z (st:=z1i) l__law_unknown c__law_unknown k__law_unknown
 have b__law_unknown:=F__law_unknown.binds (ps:=z3m) fun _ _ _ _ _ _ us hl=>match us,hl with | [_,_],_=>rfl
 have F_law:=z0z (st:=z8X) l_law c_law k_law
 have b_law:=F_law.binds (ps:=P_law) fun _ _ _ _ _ _ us hl=>match us,hl with | [_],_=>rfl
 refine ⟨aA "law" "law" (z0n z8X) (z0i z8X) (z0b z8X) .none kV41 dc41 pm41 an41 cd41 ct41,fun s v=>.of_eq rfl,fun base KB GB=>?_⟩
 let cl : Nat->Value:=fun n=>match n with | 0=>.ref C_AskError | 1=>.ref C_BadOrder | 2=>.ref C_NotTop | 3=>.ref C_Unknown | _=>.none
 have Z : Cls K mg base cl:=⟨⟨C_AskError,rfl,y1X KB GB x_AskError q_AskError,x_AskError,xb_AskError⟩,⟨C_BadOrder,rfl,y1X KB GB x_BadOrder q_BadOrder,x_BadOrder,xb_BadOrder⟩,⟨C_NotTop,rfl,y1X KB GB x_NotTop q_NotTop,x_NotTop,xb_NotTop⟩,⟨C_Unknown,rfl,y1X KB GB x_Unknown q_Unknown,x_Unknown,xb_Unknown⟩,fun C h=>by cases h; exact e_BadOrder_AskError,fun C h=>by cases h; exact e_NotTop_AskError,fun C h=>by cases h; exact e_Unknown_AskError,fun D hD=>by cases hD; exact k_one (fun C hn=>by cases hn.symm.trans x_BadOrder; exact t_BadOrder_Unknown) (k_one (fun C hn=>by cases hn.symm.trans x_NotTop; exact t_NotTop_Unknown) (k_one (fun C hn=>by cases hn.symm.trans x_Unknown; exact t_Unknown_Unknown) (k_nil)))⟩
 have G_beats_all : DefOk l.prog w K mg base 1 "beats_all" (spN K z0Q):=z9A F_beats_all (aB X G a_beats_all) b_beats_all T
 have G_places_true : DefOk l.prog w K mg base 1 "places_true" (spN K z1Y):=z7B F_places_true (aB X G a_places_true) b_places_true T
 have G_beaten_by : DefOk l.prog w K mg base 2 "beaten_by" (spN K z1n):=y0d F_beaten_by (aB X G a_beaten_by) b_beaten_by T G_places_true
 have G_is_thing : DefOk l.prog w K mg base 1 "is_thing" (spN K z3w):=y0F F_is_thing (aB X G a_is_thing) b_is_thing T
 have G_tells_each_once : DefOk l.prog w K mg base 2 "tells_each_once" (spN K z0X):=z5y F_tells_each_once (aB X G a_tells_each_once) b_tells_each_once T G_is_thing
 have G_order_asked : DefX l.prog w K mg base 3 "order_asked" (spX K cl z1c):=z7v F_order_asked (aB X G a_order_asked) b_order_asked T Z G_tells_each_once
 have G_winner : DefOk l.prog w K mg base 1 "winner" (spN K z5C):=y5r F_winner (aB X G a_winner) b_winner T
 have G_last_standing : DefX l.prog w K mg base 4 "last_standing" (spX K cl z0Z):=z6t F_last_standing (aB X G a_last_standing) b_last_standing T Z G_order_asked G_winner
 have G_chain_behind : DefX l.prog w K mg base 4 "chain_behind" (spX K cl z1C):=z7i F_chain_behind (aB X G a_chain_behind) b_chain_behind T Z G_beats_all G_order_asked
 have G_is_chain : DefOk l.prog w K mg base 2 "is_chain" (spN K z3p):=y1f F_is_chain (aB X G a_is_chain) b_is_chain T G_beats_all
 have G_beaters : DefOk l.prog w K mg base 2 "beaters" (spN K z2w):=y3U F_beaters (aB X G a_beaters) b_beaters T G_beats_all
 have G_stands : DefOk l.prog w K mg base 3 "stands" (spN K z4A):=y7v F_stands (aB X G a_stands) b_stands T G_is_chain G_beaters
 have G_ended_chains : DefOk l.prog w K mg base 13 "ended_chains" (spM2 K z1D):=z7j F_ended_chains (aB X G a_ended_chains) b_ended_chains T
 have G_crown_paper : DefOk l.prog w K mg base 14 "crown_paper" (spR K z1W):=z7w F_crown_paper (aB X G a_crown_paper) b_crown_paper T G_beaten_by G_beaters G_stands G_ended_chains
 have G_steps_from : DefOk l.prog w K mg base 3 "steps_from" (spN K z2A):=z8S F_steps_from (aB X G a_steps_from) b_steps_from T G_beaten_by
 have G_reached : DefOk l.prog w K mg base 4 "reached" (spN K z3y):=y3K F_reached (aB X G a_reached) b_reached T G_steps_from
 have G_places_with : DefOk l.prog w K mg base 1 "places_with" (spN K z1z):=z7y F_places_with (aB X G a_places_with) b_places_with T
 have G_rings : DefOk l.prog w K mg base 5 "rings" (spN K z5a):=y8x F_rings (aB X G a_rings) b_rings T G_reached G_places_with
 have G_top_ring : DefOk l.prog w K mg base 6 "top_ring" (spN K z2g):=y1E F_top_ring (aB X G a_top_ring) b_top_ring T G_rings
 have G_begun_with : DefOk l.prog w K mg base 1 "begun_with" (spN K z2y):=z8z F_begun_with (aB X G a_begun_with) b_begun_with T
 have G_detour : DefOk l.prog w K mg base 1 "detour" (spN K z4t):=y6K F_detour (aB X G a_detour) b_detour T
 have G_widened : DefOk l.prog w K mg base 2 "widened" (spR K z2X):=y3S F_widened (aB X G a_widened) b_widened T G_detour
 have G_round_of : DefOk l.prog w K mg base 3 "round_of" (spR K z2f):=y0N F_round_of (aB X G a_round_of) b_round_of T G_widened
 have G_row_from : DefX l.prog w K mg base 6 "row_from" (spX K cl z1T):=y0I F_row_from (aB X G a_row_from) b_row_from T Z G_rings G_begun_with G_round_of
 have G_to_stand : DefOk l.prog w K mg base 7 "to_stand" (spR K z2N):=y1p F_to_stand (aB X G a_to_stand) b_to_stand T Z G_top_ring G_row_from
 have G_to_crown : DefOk l.prog w K mg base 15 "to_crown" (spR K z2R):=y1m F_to_crown (aB X G a_to_crown) b_to_crown T G_crown_paper
 have G_to_rest : DefOk l.prog w K mg base 7 "to_rest" (spR K z3A):=y3V F_to_rest (aB X G a_to_rest) b_to_rest T Z G_top_ring G_row_from
 have G_brings : DefX l.prog w K mg base 5 "brings" (spX K cl z1G):=y7D F_brings (aB X G a_brings) b_brings T Z G_last_standing G_chain_behind
 have G_paper_for : DefX l.prog w K mg base 16 "paper_for" (y8R K cl z0j):=z9Z F_paper_for (aB X G a_paper_for) b_paper_for T Z G_to_stand G_to_crown G_to_rest
 have G_orders_to : DefX l.prog w K mg base 17 "orders_to" (y8R K cl z0B):=z9m F_orders_to (aB X G a_orders_to) b_orders_to T Z G_paper_for
 have G_can_be_had : DefX l.prog w K mg base 18 "can_be_had" (spX K cl z0O):=z8V F_can_be_had (aB X G a_can_be_had) b_can_be_had T Z G_orders_to
 have G__law_cell_at : DefOk l.prog w K mg base 1 "_law_cell_at" (spN K z0p):=z6K F__law_cell_at (aB X G a__law_cell_at) b__law_cell_at T
 have G__law_whole : DefOk l.prog w K mg base 1 "_law_whole" (spN K z1L):=z9e F__law_whole (aB X G a__law_whole) b__law_whole T
 have G__law_table : DefOk l.prog w K mg base 2 "_law_table" (spN K z1M):=z8q F__law_table (aB X G a__law_table) b__law_table T G__law_cell_at
 have G__law_copy : DefOk l.prog w K mg base 1 "_law_copy" (spN K z2i):=y0b F__law_copy (aB X G a__law_copy) b__law_copy T
 have G__law_stand : DefOk l.prog w K mg base 1 "_law_stand" (spN K z2B):=z8g F__law_stand (aB X G a__law_stand) b__law_stand T
 have G__law_chain : DefOk l.prog w K mg base 1 "_law_chain" (spN K z2x):=z8p F__law_chain (aB X G a__law_chain) b__law_chain T
 have G__law_rest : DefOk l.prog w K mg base 1 "_law_rest" (spN K z2W):=z9U F__law_rest (aB X G a__law_rest) b__law_rest T
 have G__law_led : DefOk l.prog w K mg base 2 "_law_led" (spN K z0W):=y0R F__law_led (aB X G a__law_led) b__law_led T G__law_stand G__law_chain G__law_rest
 have G__law_orders : DefOk l.prog w K mg base 1 "_law_orders" (spR K z1A):=z7L F__law_orders (aB X G a__law_orders) b__law_orders T
 have G__law_unknown : DefOk l.prog w K mg base 19 "_law_unknown" (spN K z1h):=z6Z F__law_unknown (aB X G a__law_unknown) b__law_unknown T Z G_can_be_had
 exact law_of (ok_law F_law T Z G_brings G_can_be_had G__law_cell_at G__law_whole G__law_table G__law_copy G__law_led G__law_orders G__law_unknown)
theorem walk {l : df} {q : Program} {loose : List Str} {XP : (Str->Option Value)->Heap->Prop} {YP : World->Heap->Prop} {d : DefRec} {K : Params->aa} (hn : l.most=some 63) (hdf : d.params.defaults=[])
  (hlaw : ∀ ns : List Int,ns.length≤63->y4j [.scr ns]=some (.bl true)) (hY : ∀ (w : World) (h : Heap),YP w h->(K w.params).In h)
  (F : ∀ (w : World) (mg : Str->Option Value) (fa : Addr) (h : Heap),(K w.params).In h->h.Ns mainGlobals mg->mg d.name=some (.ref fa) →
   ∃ fd : FuncData,(∀ (s : Shared) (u : Value),BindsTo s fd ⟨[u],[]⟩ [("script",u)])∧∀ base : Heap,(K w.params).In base->base.Ns mainGlobals mg->FnOk l.prog w (K w.params) mg base CX0 20 fa fd ["script"] (y8g (K w.params) y4j)) :
  PySem.W.WalkO q loose XP YP l.row.toRowW d [] (fun f vs=>PySem.call f vs):=
 L2.walk_of (n:=63) (k:=20) (x := "script") (CX:=fun _=>CX0) (sp:=fun w=>y8g (K w.params) y4j) hn (by decide) hdf ⟨rfl,by decide,by decide⟩ hY F (fun _ _ a ns hl hO hS=>⟨a,ns,rfl,y8u hO hS,hlaw ns hl,fun _=>rfl⟩) fun _ _ _ _ _ z=>z
end Prg
namespace Prg
open PySem L2
open Lean in
local macro_rules
 | `(tactic| simp! only [$xs,*] $[$loc]?)=>do
  let a ← (("y6F y4t ev_C ev_d2 ev_d1 y6b y2c y5g y9W y5I x0D ev_if y2k y1Q y6f y2t y9O y9X y0l ev_is x0M y4A y5p y6Z y4x z9G x0m y7o y7w y5d y6k y6h y6Q y4C y6c y4B x0y y4u y9S x0o x0q ev_m0 y3e y2M y7x y1O y7q y5W y5s x0C y2d y7z y9I y6U y3l y2W y3d y2L y2R y7E x0u x0x y6G y2m x0z x0d z9v y9F y4w eo_r1 y2y eo_2 x0s y5e x0t y5L y6m y5G eo_nx eo_rt y9L x0K y9C y5P y6H y5b y7s x0S eo_in y9R y2P y5z x0T x0l x0I x0F x0A y9Z x0n y4W y4X y5C ea_lt ea_le ea_gt y9N y3h y9B x0p y7j y4D y4p y5f x0E x0b y4R y5D x0R y0U y6j y7i y5j y5q y9Q x0k es_v1 es_v2 x0g y2i y3j y0e z9F y2Z x0j x0i y7G y4G eb_bs eb_bn eb_ms eb_mn eb_s0 eb_sS eb_mc y6r eb_rS eb_r0 eb_ca eb_na".splitOn " ").toArray).mapM fun s=>`(Lean.Parser.Tactic.simpLemma| $(mkIdent s.toName):term)
  let b : Syntax.TSepArray [`Lean.Parser.Tactic.simpStar,`Lean.Parser.Tactic.simpErase,`Lean.Parser.Tactic.simpLemma] "," := ⟨(Syntax.TSepArray.ofElems (sep := ",") a).elemsAndSeps⟩
  `(tactic| simp only [$b,*,$xs,*] $[$loc]?)
local macro_rules | `(tactic| simp_all! only [$xs,*])=>`(tactic| simp only [y6F,y4t,ev_C,ev_d2,ev_d1,y6b,y2c,y5g,y9W,y5I,x0D,ev_if,y2k,y1Q,y6f,y2t,y9O,y9X,y0l,ev_is,x0M,y4A,y5p,y6Z,y4x,z9G,x0m,y7o,y7w,y5d,y6k,y6h,y6Q,y4C,y6c,y4B,x0y,y4u,y9S,x0o,x0q,ev_m0,y3e,y2M,y7x,y1O,y7q,y5W,y5s,x0C,y2d,y7z,y9I,y6U,y3l,y2W,y3d,y2L,y2R,y7E,x0u,x0x,y6G,y2m,x0z,x0d,z9v,y9F,y4w,eo_r1,y2y,eo_2,x0s,y5e,x0t,y5L,y6m,y5G,eo_nx,eo_rt,y9L,x0K,y9C,y5P,y6H,y5b,y7s,x0S,eo_in,y9R,y2P,y5z,x0T,x0l,x0I,x0F,x0A,y9Z,x0n,y4W,y4X,y5C,ea_lt,ea_le,ea_gt,y9N,y3h,y9B,x0p,y7j,y4D,y4p,y5f,x0E,x0b,y4R,y5D,x0R,y0U,y6j,y7i,y5j,y5q,y9Q,x0k,es_v1,es_v2,x0g,y2i,y3j,y0e,z9F,y2Z,x0j,x0i,y7G,y4G,eb_bs,eb_bn,eb_ms,eb_mn,eb_s0,eb_sS,eb_mc,y6r,eb_rS,eb_r0,eb_ca,eb_na,Int.reduceEq,Int.reduceLT,Int.reduceLE,Int.reduceGT,Int.reduceAdd,Int.reduceSub,Int.reduceMul,Int.reduceNeg,decide_true,decide_false,dU,Bool.false_or,Bool.or_true,Bool.true_or,Bool.and_true,Bool.true_and,dM,dL,Bool.not_true,Bool.not_false,$xs,*])
theorem y1i (ns : List Int) (k : Nat) : ∃ c : Int,z0p [.scr ns,.int (k : Int)]=some (.int c):=by
 by_cases h : k < ns.length
 ·refine ⟨ns[k],z0H rfl ?_⟩
  have h' : decide ((k : Int) < (ns.length : Int))=true:=by simp; omega
  simp! only [z2u,h',x0f h,z0d]
 ·refine ⟨0,z0H rfl ?_⟩
  have h' : decide ((k : Int) < (ns.length : Int))=false:=by simp; omega
  simp! only [z2u,h',z0d]
structure Full (m : Nat) (T : List (List Bool)) : Prop where
 sq : Sq m T
 own : ∀ i < m,at2 T i i=false
 two : ∀ i < m,∀ j < m,i≠j->at2 T i j = !at2 T j i
theorem y0S {x : Int} {m : Nat} (h : 0≤x∧x < (m : Int)) : z3w [.int x,.int (m : Int)]=some (.bl true):=by
 refine z0H rfl ?_
 have c : chO leI ltI (some (.int 0)) (some (.int x)) (some (.int (m : Int)))=some (.bl (true && true)):=y8p (by rw [ea_le,decide_eq_true h.1]) (by rw [ea_lt,decide_eq_true h.2])
 simp_all! only [z5L,c,z0d]
theorem z4h {o : List Nat} {m : Nat} (h : o.Perm (ah m)) : ∀ x∈o,x < m:=fun _ hx=>au.mp (h.mem_iff.mp hx)
theorem z2r {o : List Nat} {m : Nat} (h : o.Perm (ah m)) : o.length=m:=by simpa using h.length_eq
theorem perm_nd {o : List Nat} {m : Nat} (h : o.Perm (ah m)) : o.Nodup:=h.nodup_iff.mpr bZ
theorem nD_ints (o : List Nat) : o.map nD=(o.map fun n=>((n : Nat) : Int)).map D.int:=by rw [bq]; rfl
theorem y9g {m : Nat} (hm : m≤1000) {o : List Nat} (hp : o.Perm (ah m)) : z0X [thD o,.int (m : Int)]=some (.bl true):=by
 refine z0H rfl ?_
 have hl : decide ((o.length : Int)=(m : Int))=true:=decide_eq_true (by rw [z2r hp])
 have t0 : D.dct [] []=y1a []:=rfl
 simp_all! only [z2b,z6m,hl,t0,z3d]
 refine z0E (I:=fun s=>∃ p o3,s=[some (.sh (thD o)),some (.sh (.int (m : Int))),some (.ow (y1a p)),o3]) ?_ ?_
 ·refine z1r (fun pre s=>∃ o3,s=[some (.sh (thD o)),some (.sh (.int (m : Int))),some (.ow (y1a (pre.map fun n=>((n : Nat) : Int)))),o3]) ⟨none,rfl⟩ ?_ fun s ⟨o3,z⟩=>⟨s,rfl,_,o3,z⟩
  rintro pre x post e s ⟨o3,rfl⟩
  have hx : x∈o:=by rw [e]; simp
  have hxm:=z4h hp x hx
  have it:=y0S (x:=(x : Int)) (m:=m) ⟨by omega,by omega⟩
  have nd:=perm_nd hp
  rw [e,aW] at nd
  have hnp : (x : Int) ∉ pre.map fun n=>((n : Nat) : Int):=fun z=>by
   obtain ⟨y,hy,hyx⟩:=aZ.mp z
   have : y=x:=by omega
   subst this
   exact nd.2.2 y hy y ac rfl
  have hpl : (pre.map fun n=>((n : Nat) : Int)).length≤1000000:=by
   have h1:=z2r hp
   rw [e,aH] at h1
   rw [aq]
   omega
  simp_all! only [nD,it,y5Q hnp,y8k hnp hpl,z0d]
  rw [aP]
  exact ⟨_,rfl⟩
 ·rintro s ⟨p,o3,rfl⟩
  simp! only [z0d]
def tk (m : Nat) : List Int->List Int->Bool
 | _,[]=>true
 | p,x :: r=>((decide (0≤x) && decide (x < (m : Int))) && !p.contains x) && tk m (p ++ [x]) r
theorem y4z {o : List Int} {k : Nat} {x : Int} (h : k < o.length) : st0V (some (.lst (o.map .int))) (some (.int (k : Int))) (some (.int x))=some (.lst ((o.set k x).map .int)):=by
 show (ixN (o.map D.int).length (k : Int)).map (fun j=>D.lst ((o.map D.int).set j (.int x)))=_
 rw [ixN_of (by simpa using h),bH,← d8]
theorem y3a {m : Nat} (hm : m≤1000) (h0 : 0 < m) {o : List Nat} (hp : o.Perm (ah m)) : z1c [thD o,.int (m : Int)]=some (.val .non):=by
 refine runX_nx rfl ?_
 have d0 : decide ((m : Int)=0)=false:=decide_eq_false (by omega)
 simp_all! only [z3G,d0,y9g hm hp,z0d]
 exact ⟨_,rfl⟩
theorem y4I {m : Nat} {T : List (List Bool)} (sq : Sq m T) {a b : Nat} (ha : a < m) (hb : b < m) : z5C [z0r T,.int (a : Int),.int (b : Int)]=some (.int ((if at2 T b a=true then b else a : Nat) : Int)):=by
 refine z0H rfl ?_
 simp! only [z9d,ix2 sq hb ha]
 cases at2 T b a with
 | true=>simp! only [z0d]; rfl
 | false=>simp! only [z0d]; rfl
def z1e (T : List (List Bool)) (s : Nat) (o : List Nat) : Nat:=o.foldl (fun s x=>if at2 T x s=true then x else s) s
theorem z6E {T : List (List Bool)} {m : Nat} : ∀ {o : List Nat} {s : Nat},s < m->(∀ x∈o,x < m)->z1e T s o < m
 | [],s,h,_=>h
 | x :: r,s,h,hx=>by
  show z1e T (if at2 T x s=true then x else s) r < m
  refine z6E ?_ fun y hy=>hx y (af _ hy)
  split
  ·exact hx x ac
  ·exact h
theorem y2Y {m : Nat} {T : List (List Bool)} (sq : Sq m T) (hm : m≤1000) {a : Nat} {r : List Nat} (hp : (a :: r).Perm (ah m)) : z0Z [z0r T,thD (a :: r)]=some (.val (.int ((z1e T a r : Nat) : Int))):=by
 refine z2e rfl ?_
 have h0 : 0 < m:=by have:=z2r hp; simp at this; omega
 have hlt:=z4h hp
 have ha:=hlt a ac
 have oa:=y3a hm h0 hp
 simp! only [z2Y,z3W,sq.1,oa,ix0,y1T,z6l,z3d,List.drop_one,List.tail_cons]
 refine z0E (I:=fun s=>∃ o2 o3,s=[some (.sh (z0r T)),some (.sh (thD (a :: r))),o2,o3]∧(o2=some (.sh (.int ((z1e T a r : Nat) : Int)))∨o2=some (.ow (.int ((z1e T a r : Nat) : Int))))) ?_ ?_
 ·refine z1r (fun pre s=>∃ o2 o3,s=[some (.sh (z0r T)),some (.sh (thD (a :: r))),o2,o3]∧(o2=some (.sh (.int ((z1e T a pre : Nat) : Int)))∨o2=some (.ow (.int ((z1e T a pre : Nat) : Int))))) ⟨_,_,rfl,.inl rfl⟩ ?_ fun s z=>⟨s,rfl,z⟩
  rintro pre x post e s ⟨o2,o3,rfl,h⟩
  have hx:=hlt x (by rw [e]; simp)
  have hs : z1e T a pre < m:=z6E ha fun y hy=>hlt y (by rw [e]; simp [hy])
  have w:=y4I sq hs hx
  have e2 : z1e T a (pre ++ [x])=if at2 T x (z1e T a pre)=true then x else z1e T a pre:=by unfold z1e; rw [List.foldl_append]; rfl
  rw [e2]
  rcases h with rfl | rfl <;> simp! only [nD,w,z0d] <;> exact ⟨_,_,rfl,.inr rfl⟩
 ·rintro s ⟨o2,o3,rfl,h⟩
  rcases h with rfl | rfl <;> simp! only [z0d]
theorem z4R {m : Nat} {T : List (List Bool)} (sq : Sq m T) {a : Nat} (ha : a < m) {th : List Nat} (hl : th.length≤1000) (h : ∀ x∈th,x < m) : z0Q [z0r T,.int (a : Int),thD th]=some (.bl (th.all fun j=>at2 T a j)):=by
 refine z0H rfl ?_
 simp! only [z4U,z3d]
 rw [z7O (fun j=>bD (at2 T a j)) hl fun j hj=>by simp! only [nD,ix2 sq ha (h j hj),bD]]
 have e : (th.map fun j=>bD (at2 T a j))=(th.map fun j=>at2 T a j).map bD:=by rw [bq]; rfl
 have e2 : ((th.map fun j=>at2 T a j).all fun b=>b)=th.all fun j=>at2 T a j:=by rw [List.all_map]; rfl
 simp! only [e,y9D,e2,z0d]
def z1S (T : List (List Bool)) : List Nat->List Nat
 | []=>[]
 | a :: r=>if (z1S T r).all (fun j=>at2 T a j)=true then a :: z1S T r else z1S T r
theorem chBk_sub {T : List (List Bool)} : ∀ {o : List Nat},(z1S T o).Sublist o
 | []=>.slnil
 | a :: r=>by
  unfold z1S
  split
  ·exact chBk_sub.cons₂ _
  ·exact chBk_sub.cons _
theorem z7l {T : List (List Bool)} : ∀ {r : List Nat} {a : Nat},∃ h : z1S T (a :: r)≠[],(z1S T (a :: r)).getLast h=(a :: r).getLast (by simp)
 | [],a=>⟨by simp [z1S],by simp [z1S]⟩
 | b :: r,a=>by
  obtain ⟨h,e⟩:=z7l (T:=T) (r:=r) (a:=b)
  rw [z1S]
  split
  ·exact ⟨by simp,by rw [List.getLast_cons h,e]; rfl⟩
  ·exact ⟨h,by rw [e]; rfl⟩
theorem y3F {m : Nat} {T : List (List Bool)} (sq : Sq m T) (hm : m≤900) (h0 : 0 < m) {o : List Nat} (hp : o.Perm (ah m)) : z1C [z0r T,thD o]=some (.val (thD (z1S T o))):=by
 refine z2e rfl ?_
 have oa:=y3a (by omega) h0 hp
 have hlt:=z4h hp
 have hlen:=z2r hp
 simp! only [z3o,z3W,sq.1,oa,z3R,y4o,y1F]
 refine z0E (I:=fun s=>∃ o3,s=[some (.sh (z0r T)),some (.sh (thD o)),some (.ow (thD (z1S T o))),o3]) ?_ ?_
 ·refine z1r (fun pre s=>∃ o3,s=[some (.sh (z0r T)),some (.sh (thD o)),some (.ow (thD (z1S T pre.reverse))),o3]) ⟨_,rfl⟩ ?_ fun s ⟨o3,z⟩=>⟨s,rfl,o3,by rw [z,cf]⟩
  rintro pre x post e s ⟨o3,rfl⟩
  have hx:=hlt x (by rw [← cH,e]; simp)
  have hsub:=chBk_sub (T:=T) (o:=pre.reverse)
  have hpl : pre.length≤m:=by
   have : o.reverse.length=(pre ++ x :: post).length:=by rw [e]
   simp at this
   omega
  have hl : (z1S T pre.reverse).length≤900:=by
   have:=hsub.length_le
   rw [bG] at this
   omega
  have ba:=z4R sq hx (th:=z1S T pre.reverse) (by omega) fun y hy=>hlt y (by
   have:=hsub.subset hy
   rw [← cH,e]
   simp at this
   simp [this])
  have er : (pre ++ [x]).reverse=x :: pre.reverse:=by simp
  rw [er,z1S]
  have cc : catO (some (thD [x])) (some (thD (z1S T pre.reverse)))=some ((x :: z1S T pre.reverse).map nD):=z6j (a:=[x]) (by simp; omega)
  obtain ⟨w,hw⟩ : ∃ w,w=x :: z1S T pre.reverse:=⟨_,rfl⟩
  rw [← hw] at cc ⊢
  simp! only [nD,ba,y7a,cc,z2U,z6l]
  cases (z1S T pre.reverse).all fun j=>at2 T x j with
  | true=>simp! only [y7a,cc,z2U,z6l,z0d,if_true]; exact ⟨_,rfl⟩
  | false=>simp! only [z0d,cB,if_false]; exact ⟨_,rfl⟩
 ·rintro s ⟨o3,rfl⟩
  simp! only [z0d]
def prD (z : Nat × Nat) : D:=.tup [.int (z.1 : Int),.int (z.2 : Int)]
def prs (m : Nat) : List (Nat × Nat):=(ah m).flatMap fun i=>(ah i).map fun j=>(i,j)
theorem y3g {n : Nat} : prs (n + 1)=prs n ++ (ah n).map fun j=>(n,j):=by
 unfold prs
 rw [cg,eM]
 simp
theorem prs_mem {m : Nat} {z : Nat × Nat} : z∈prs m↔z.1 < m∧z.2 < z.1:=by
 unfold prs
 rw [dl]
 constructor
 ·rintro ⟨i,hi,h⟩
  obtain ⟨j,hj,rfl⟩:=aZ.mp h
  exact ⟨au.mp hi,au.mp hj⟩
 ·rintro ⟨h1,h2⟩
  exact ⟨z.1,au.mpr h1,aZ.mpr ⟨z.2,au.mpr h2,rfl⟩⟩
theorem y7A {m : Nat} : (prs m).length≤m * m:=by
 induction m with
 | zero=>exact ar 0
 | succ n ih=>
  rw [y3g,aH,aq,bE]
  have : (n + 1) * (n + 1)=n * n + 2 * n + 1:=by rw [Nat.add_mul,Nat.mul_add]; omega
  omega
theorem app_pr {ps : List (Nat × Nat)} {z : Nat × Nat} (hl : ps.length≤100000) : m0V y4g (some (.lst (ps.map prD))) (some [prD z])=some (.lst ((ps ++ [z]).map prD)):=by
 show (if (ps.map prD).length < sizeLine then some (ps.map prD ++ [prD z]) else none).map D.lst=_
 rw [aq,if_pos (by rw [PySem.sizeLine_eq]; omega),aP]
 rfl
theorem y6a {m i j : Nat} : at2 (ae m (ae m false)) i j=false:=by
 unfold at2
 simp only [cv,bv]
 by_cases h : i < m
 ·simp only [h,if_true,c5,bv]
  by_cases h2 : j < m <;> simp [h2]
 ·simp [h]
theorem y4L {T : List (List Bool)} {i j a b : Nat} {v : Bool} (hi : i < T.length) (hj : j < T[i].length) : at2 (T.set i (T[i].set j v)) a b=if a=i∧b=j then v else at2 T a b:=by
 unfold at2
 by_cases h : a=i
 ·subst h
  simp only [cv,cJ hi,c5,av hi]
  by_cases h2 : b=j
  ·subst h2
   simp [hj]
  ·simp [h2,aV (Ne.symm h2)]
 ·simp only [cv,aV (Ne.symm h)]
  simp [h]
structure Prt (m : Nat) (T : List (List Bool)) (ps : List (Nat × Nat)) : Prop where
 sq : Sq m T
 own : ∀ i < m,at2 T i i=false
 two : ∀ z∈ps,z.2 < z.1->at2 T z.1 z.2 = !at2 T z.2 z.1
theorem Prt.next {m : Nat} {T : List (List Bool)} {ps : List (Nat × Nat)} (P : Prt m T ps) {z : Nat × Nat} (h1 : z.1 < m) (h2 : z.2 < z.1) {b : Int} (hb : b=0∨b=1) (ha : z.1 < T.length) (hc : z.2 < (T.set z.1 (T[z.1].set z.2 (decide (b=1)))).length) :
  Prt m ((T.set z.1 (T[z.1].set z.2 (decide (b=1)))).set z.2 ((T.set z.1 (T[z.1].set z.2 (decide (b=1))))[z.2].set z.1 (decide (b=0)))) (ps ++ [z]):=by
 have k2 : z.2 < T[z.1].length:=by rw [P.sq.row ha]; omega
 have sq1 : Sq m (T.set z.1 (T[z.1].set z.2 (decide (b=1)))):=P.sq.set ha
 have k4 : z.1 < (T.set z.1 (T[z.1].set z.2 (decide (b=1))))[z.2].length:=by rw [sq1.row hc]; exact h1
 have e : ∀ x y,at2 ((T.set z.1 (T[z.1].set z.2 (decide (b=1)))).set z.2 ((T.set z.1 (T[z.1].set z.2 (decide (b=1))))[z.2].set z.1 (decide (b=0)))) x y=if x=z.2∧y=z.1 then decide (b=0) else if x=z.1∧y=z.2 then decide (b=1) else at2 T x y:=fun x y=>by
  rw [y4L hc k4,y4L ha k2]
 refine ⟨sq1.set hc,fun i hi=>?_,fun w hw h=>?_⟩
 ·rw [e,if_neg (by omega),if_neg (by omega)]
  exact P.own i hi
 ·rw [e,e]
  by_cases q : w.1=z.1∧w.2=z.2
  ·rw [if_neg (by omega),if_pos q,if_pos ⟨q.2,q.1⟩]
   rcases hb with rfl | rfl <;> rfl
  ·rw [if_neg (by omega),if_neg q,if_neg (by omega),if_neg (by omega)]
   rcases ay.mp hw with z1 | z1
   ·exact P.two w z1 h
   ·rw [ai] at z1
    exact absurd ⟨congrArg Prod.fst z1,congrArg Prod.snd z1⟩ q
theorem Prt.full {m : Nat} {T : List (List Bool)} (P : Prt m T (prs m)) : Full m T:=⟨P.sq,P.own,fun i hi j hj hij=>by
 by_cases h : j < i
 ·exact P.two (i,j) (prs_mem.mpr ⟨hi,h⟩) h
 ·rw [P.two (j,i) (prs_mem.mpr ⟨hj,by omega⟩) (by show i < j; omega),Bool.not_not]⟩
theorem tab0 {m : Nat} (hm : m≤1000) {ns : List Int} {a2 a3 a4 a5 a6 a7 a8 a9 : Option D} : z2a (some (z7n 0 m)) (z3a z5p (z0C (dRep (mkL (z0o [dC (.bl false)])) (z0c 1))) [some (.scr ns),some (.int (m : Int)),a2,a3,a4,a5,a6,a7,a8,a9])=some ((ae m (ae m false)).map z4L):=by
 rw [z4m,z7O (fun _=>z4L (ae m false)) (by simp; omega) fun x hx=>?_]
 ·congr 1
  apply List.ext_getElem <;> simp
 ·have e : (ae m (D.bl false))=(ae m false).map bD:=by rw [eS]; rfl
  simp! only [y5E (show m≤1000000 by omega),e,z8j (z3Q _)]
  rfl
def ib (b : List Int) : Prop:=∀ x∈b,x=0∨x=1
theorem y9E {b : List Int} {k : Nat} {x : Int} (h : ib b) (hx : x=0∨x=1) : ib (b.set k x):=fun y hy=>by
 rcases dQ hy with z | z
 ·exact h y z
 ·rw [z]; exact hx
theorem pr_0 {z : Nat × Nat} : ixD (prD z) (.int 0)=some (.int (z.1 : Int)):=(rfl)
theorem pr_1 {z : Nat × Nat} : ixD (prD z) (.int 1)=some (.int (z.2 : Int)):=(rfl)
theorem y2H {ps : List (Nat × Nat)} : ((ps.map prD).length : Int)=(ps.length : Int):=by rw [aq]
theorem y8b (ns : List Int) (hns : ns.length≤63) (m : Nat) (hm : m≤8) : hol (z1M [.scr ns,.int (m : Int)]) fun d=>∃ T,d=z0r T∧Full m T:=by
 refine z7h rfl ?_
 obtain ⟨c1,e1⟩:=y1i ns 1
 have e1 : z0p [.scr ns,.int 1]=some (.int c1):=e1
 have ms : z6i (.int c1) (.int 1000003)=some (.int (c1 % 1000003)):=z4J (by omega)
 obtain ⟨sd,hsd⟩ : ∃ sd,sd=c1 % 1000003:=⟨_,rfl⟩
 have hsd2 : 0≤sd∧sd < 1000003:=by rw [hsd]; exact ⟨Int.emod_nonneg _ (by omega),Int.emod_lt_of_pos _ (by omega)⟩
 rw [← hsd] at ms
 have m3 : z6i (.int sd) (.int 3)=some (.int (sd % 3)):=z4J (by omega)
 have tl : D.lst ((ae m (ae m false)).map z4L)=z0r (ae m (ae m false)):=rfl
 have hL : (prs m).length≤64:=aJ y7A (dP hm hm)
 simp! only [z3U,e1,ms,z1t (show m≤1000000 by omega),tab0 (show m≤1000 by omega),tl,z3R]
 refine z0E (I:=fun s=>∃ o5 o6,s=[some (.sh (.scr ns)),some (.sh (.int (m : Int))),some (.sh (.int sd)),some (.ow (z0r (ae m (ae m false)))),some (.ow (.lst ((prs m).map prD))),o5,o6,none,none,none]) ?_ ?_
 ·refine z4Q (fun n s=>∃ o5 o6,s=[some (.sh (.scr ns)),some (.sh (.int (m : Int))),some (.sh (.int sd)),some (.ow (z0r (ae m (ae m false)))),some (.ow (.lst ((prs n).map prD))),o5,o6,none,none,none]) ⟨_,_,rfl⟩ ?_ fun s z=>⟨s,rfl,z⟩
  rintro n hn s ⟨o5,o6,rfl⟩
  have hnl : (prs n).length≤64:=aJ y7A (dP (show n≤8 by omega) (show n≤8 by omega))
  simp! only [bW,z1t (show n≤1000000 by omega)]
  refine z4Q (fun j s=>∃ o6,s=[some (.sh (.scr ns)),some (.sh (.int (m : Int))),some (.sh (.int sd)),some (.ow (z0r (ae m (ae m false)))),some (.ow (.lst ((prs n ++ (ah j).map fun j=>(n,j)).map prD))),some (.sh (.int (n : Int))),o6,none,none,none]) ⟨o6,by simp⟩ ?_ ?_
  ·rintro j hj s ⟨o6,rfl⟩
   have im : y4q (some [.tup [.int (n : Int),.int (j : Int)]])=some [prD (n,j)]:=z8C rfl
   have ap:=app_pr (ps:=prs n ++ (ah j).map fun j=>(n,j)) (z:=(n,j)) (by simp; omega)
   simp! only [bW,im,ap,z0d]
   refine ⟨some (.sh (.int (j : Int))),?_⟩
   have e : (prs n ++ (ah j).map fun j=>(n,j)) ++ [(n,j)]=prs n ++ (ah (j + 1)).map fun j=>(n,j):=by rw [cg,aP,← aL]; rfl
   rw [e]
  ·rintro s ⟨o6,rfl⟩
   rw [← y3g]
   exact ⟨_,_,rfl⟩
 ·rintro s ⟨o5,o6,rfl⟩
  obtain ⟨ps,hps⟩ : ∃ ps,ps=prs m:=⟨_,rfl⟩
  rw [← hps] at hL ⊢
  have rp : (ae ps.length (D.int 0))=(ae ps.length (0 : Int)).map .int:=by rw [eS]
  have fl : z5H (some ((ae ps.length (0 : Int)).map D.int))=some ((ae ps.length (0 : Int)).map .int):=z8j (y1Z _)
  simp! only [y2H,y5E (show ps.length≤1000000 by omega),rp,fl,z1t (show ps.length≤1000000 by omega)]
  refine z0E (I:=fun s=>∃ b o5 o6 o8,s=[some (.sh (.scr ns)),some (.sh (.int (m : Int))),some (.sh (.int sd)),some (.ow (z0r (ae m (ae m false)))),some (.sh (.lst (ps.map prD))),o5,o6,some (.ow (.lst (b.map .int))),o8,none]∧b.length=ps.length∧ib b) ?_ ?_
  ·refine z4Q (fun n s=>∃ b o5 o6 o8,s=[some (.sh (.scr ns)),some (.sh (.int (m : Int))),some (.sh (.int sd)),some (.ow (z0r (ae m (ae m false)))),some (.sh (.lst (ps.map prD))),o5,o6,some (.ow (.lst (b.map .int))),o8,none]∧b.length=ps.length∧ib b) ⟨ae ps.length 0,_,_,_,rfl,by simp,fun x hx=>.inl (List.eq_of_mem_replicate hx)⟩ ?_ fun s z=>⟨s,rfl,z⟩
   rintro n hn s ⟨b,o5,o6,o8,rfl,hb,hi⟩
   by_cases h3 : sd % 3 > 0
   ·have d3 : decide (sd % 3 > 0)=true:=decide_eq_true h3
    have u1 : x0J (.int 7919) (.int (n : Int))=some (.int (7919 * (n : Int))):=y6d (.inl ⟨by omega,by omega⟩)
    have u2 : x0J (.int (7919 * (n : Int))) (.int (n : Int))=some (.int (7919 * (n : Int) * (n : Int))):=y6d (.inr ⟨by omega,by omega⟩)
    obtain ⟨w,hw⟩ : ∃ w : Int,w=48271 + 7919 * (n : Int) * (n : Int):=⟨_,rfl⟩
    have u3 : x0J (.int sd) (.int w)=some (.int (sd * w)):=y6d (.inl ⟨by omega,by omega⟩)
    have u4 : z6i (.int (sd * w)) (.int 2147483647)=some (.int (sd * w % 2147483647)):=z4J (by omega)
    have u5 : divI (.int (sd * w % 2147483647)) (.int 1024)=some (.int (sd * w % 2147483647 / 1024)):=y9U ⟨by omega,by omega⟩
    have u6 : z6i (.int (sd * w % 2147483647 / 1024)) (.int 2)=some (.int (sd * w % 2147483647 / 1024 % 2)):=z4J (by omega)
    simp! only [bW,m3,d3,u1,u2,← hw,u3,u4,u5,u6,y4z (show n < b.length by omega),z0d]
    exact ⟨_,_,_,_,rfl,by simp [hb],y9E hi (Int.emod_two_eq _)⟩
   ·have d3 : decide (sd % 3 > 0)=false:=decide_eq_false h3
    simp! only [m3,d3,z0d]
    exact ⟨_,_,_,_,rfl,hb,hi⟩
  ·rintro s ⟨b,o5,o6,o8,rfl,hb,hi⟩
   have r3 : rng2 (some (.int 3)) (some (.int (ns.length : Int)))=some (z7n 3 ((ns.length : Int) - 3).toNat):=eo_rng2 ⟨by omega,by omega,by omega,by omega⟩
   simp! only [r3]
   refine z0E (I:=fun s=>∃ b o5 o6 o8 o9,s=[some (.sh (.scr ns)),some (.sh (.int (m : Int))),some (.sh (.int sd)),some (.ow (z0r (ae m (ae m false)))),some (.sh (.lst (ps.map prD))),o5,o6,some (.ow (.lst (b.map .int))),o8,o9]∧b.length=ps.length∧ib b) ?_ ?_
   ·refine z4Q (fun n s=>∃ b o5 o6 o8 o9,s=[some (.sh (.scr ns)),some (.sh (.int (m : Int))),some (.sh (.int sd)),some (.ow (z0r (ae m (ae m false)))),some (.sh (.lst (ps.map prD))),o5,o6,some (.ow (.lst (b.map .int))),o8,o9]∧b.length=ps.length∧ib b) ⟨_,_,_,_,_,rfl,hb,hi⟩ ?_ fun s z=>⟨s,rfl,z⟩
    rintro n hn s ⟨b,o5,o6,o8,o9,rfl,hb,hi⟩
    by_cases h0 : 0 < ps.length
    ·have d0 : decide ((ps.length : Int) > 0)=true:=decide_eq_true (by omega)
     obtain ⟨j,ej,hj⟩:=y1g (x:=3 + (n : Int)) (n:=ps.length) h0
     have mj : z6i (.int (3 + (n : Int))) (.int (ps.length : Int))=some (.int (j : Int)):=by rw [z4J (by omega),ej]
     have hk : 3 + n < ns.length:=by omega
     have sx : (atI ns (3 + (n : Int))).map D.int=some (.int ns[3 + n]):=by
      have e : (3 + (n : Int))=((3 + n : Nat) : Int):=by omega
      rw [e,z1q (av hk)]
      rfl
     have ab : atI (b.map D.int) (j : Int)=some (.int (b[j]'(by omega))):=z1q (by rw [av (by simp; omega),ca])
     obtain ⟨w,hw⟩ : ∃ w : Int,w=b[j]'(by omega) + ns[3 + n]:=⟨_,rfl⟩
     have m2 : z6i (.int w) (.int 2)=some (.int (w % 2)):=z4J (by omega)
     simp! only [y2H,d0,mj,sx,ab,← hw,m2,y4z (show j < b.length by omega),z0d]
     exact ⟨_,_,_,_,_,rfl,by simp [hb],y9E hi (Int.emod_two_eq _)⟩
    ·have d0 : decide ((ps.length : Int) > 0)=false:=decide_eq_false (by omega)
     simp! only [y2H,d0,z0d]
     exact ⟨_,_,_,_,_,rfl,hb,hi⟩
   ·rintro s ⟨b,o5,o6,o8,o9,rfl,hb,hi⟩
    simp! only [y2H,z1t (show ps.length≤1000000 by omega)]
    refine z0E (I:=fun s=>∃ T o5 o6 o8 o9,s=[some (.sh (.scr ns)),some (.sh (.int (m : Int))),some (.sh (.int sd)),some (.ow (z0r T)),some (.sh (.lst (ps.map prD))),o5,o6,some (.ow (.lst (b.map .int))),o8,o9]∧Prt m T ps) ?_ ?_
    ·refine z4Q (fun n s=>∃ T o5 o6 o8 o9,s=[some (.sh (.scr ns)),some (.sh (.int (m : Int))),some (.sh (.int sd)),some (.ow (z0r T)),some (.sh (.lst (ps.map prD))),o5,o6,some (.ow (.lst (b.map .int))),o8,o9]∧Prt m T (ps.take n)) ⟨ae m (ae m false),_,_,_,_,rfl,⟨⟨by simp,by simp⟩,fun _ _=>y6a,fun z hz=>by simp at hz⟩⟩ ?_ ?_
     ·rintro n hn s ⟨T,o5,o6,o8,o9,rfl,P⟩
      have hz : ps[n].1 < m∧ps[n].2 < ps[n].1:=by
       have : ps[n]∈prs m:=by rw [← hps]; exact b9 _
       exact prs_mem.mp this
      have hbn : b[n]'(by omega)=0∨b[n]'(by omega)=1:=hi _ (b9 _)
      have h1 : ps[n].1 < T.length:=by rw [P.sq.1]; exact hz.1
      have h2 : ps[n].2 < T[ps[n].1].length:=by rw [P.sq.row h1]; omega
      have e1:=y2Q (v:=decide (b[n]'(by omega)=1)) h1 h2
      have sq1 : Sq m (T.set ps[n].1 (T[ps[n].1].set ps[n].2 (decide (b[n]'(by omega)=1)))):=P.sq.set h1
      have h3 : ps[n].2 < (T.set ps[n].1 (T[ps[n].1].set ps[n].2 (decide (b[n]'(by omega)=1)))).length:=by rw [sq1.1]; omega
      have h4 : ps[n].1 < (T.set ps[n].1 (T[ps[n].1].set ps[n].2 (decide (b[n]'(by omega)=1))))[ps[n].2].length:=by rw [sq1.row h3]; exact hz.1
      have e2:=y2Q (v:=decide (b[n]'(by omega)=0)) h3 h4
      have ip:=z1q (xs:=ps.map prD) (j:=n) (by rw [av (by simpa using hn),ca])
      have ab : atI (b.map D.int) (n : Int)=some (.int (b[n]'(by omega))):=z1q (by rw [av (by simp; omega),ca])
      have nx:=P.next hz.1 hz.2 hbn h1 h3
      have et : ps.take n ++ [ps[n]]=ps.take (n + 1):=by rw [List.take_add_one,av hn]; rfl
      rw [et] at nx
      simp! only [bW,ip,pr_0,pr_1,ab,e1,e2,z0d]
      exact ⟨_,_,_,_,_,rfl,nx⟩
     ·rintro s ⟨T,o5,o6,o8,o9,rfl,P⟩
      rw [bz (ar _)] at P
      exact ⟨_,rfl,_,_,_,_,_,rfl,P⟩
    ·rintro s ⟨T,o5,o6,o8,o9,rfl,P⟩
     rw [hps] at P
     simp! only [z0d]
     exact ⟨_,rfl,T,rfl,P.full⟩
theorem z7m {T : List (List Bool)} {s x : Nat} {o : List Nat} : z1e T s (o ++ [x])=if at2 T x (z1e T s o)=true then x else z1e T s o:=by unfold z1e; rw [List.foldl_append]; rfl
theorem y8j {m : Nat} {T : List (List Bool)} (sq : Sq m T) {a : Nat} {r : List Nat} (h : ∀ x∈a :: r,x < m) : z2B [z0r T,thD (a :: r)]=some (.int ((z1e T a r : Nat) : Int)):=by
 refine z0H rfl ?_
 simp! only [z3V,ix0,y1T,z6l,z3d,List.drop_one,List.tail_cons]
 refine z0E (I:=fun s=>∃ o3,s=[some (.sh (z0r T)),some (.sh (thD (a :: r))),some (.sh (.int ((z1e T a r : Nat) : Int))),o3]) ?_ ?_
 ·refine z1r (fun pre s=>∃ o3,s=[some (.sh (z0r T)),some (.sh (thD (a :: r))),some (.sh (.int ((z1e T a pre : Nat) : Int))),o3]) ⟨_,rfl⟩ ?_ fun s z=>⟨s,rfl,z⟩
  rintro pre x post e s ⟨o3,rfl⟩
  have hx:=h x (by rw [e]; simp)
  have hs : z1e T a pre < m:=z6E (h a ac) fun y hy=>h y (by rw [e]; simp [hy])
  rw [z7m]
  simp! only [nD,ix2 sq hx hs]
  cases at2 T x (z1e T a pre) with
  | true=>simp! only [z0d]; exact ⟨_,rfl⟩
  | false=>simp! only [z0d]; exact ⟨_,rfl⟩
 ·rintro s ⟨o3,rfl⟩
  simp! only [z0d]
theorem rest_eq {m : Nat} {T : List (List Bool)} (sq : Sq m T) {o : List Nat} {l : Nat} {q : List Nat} (hr : o.reverse=l :: q) (h : ∀ x∈l :: q,x < m) : z2W [z0r T,thD o]=some (.int ((z1e T l q : Nat) : Int)):=by
 refine z0H rfl ?_
 have hne : o≠[]:=fun z=>by rw [z] at hr; cases hr
 have il:=y8o (th:=o) hne
 have hl : o.getLast hne=l:=by
  have h1 : o.reverse.head? = some l:=by rw [hr]; rfl
  rw [List.head?_reverse,List.getLast?_eq_some_getLast hne] at h1
  exact Option.some.inj h1
 rw [hl] at il
 obtain ⟨w,hw⟩ : ∃ w,w=l :: q:=⟨_,rfl⟩
 rw [← hw] at hr
 simp! only [z5b,il,y1F,hr]
 refine z0E (I:=fun s=>∃ o3,s=[some (.sh (z0r T)),some (.sh (thD o)),some (.sh (.int ((z1e T l q : Nat) : Int))),o3]) ?_ ?_
 ·refine z1r (fun pre s=>∃ o3,s=[some (.sh (z0r T)),some (.sh (thD o)),some (.sh (.int ((z1e T l pre : Nat) : Int))),o3]) ⟨_,rfl⟩ ?_ ?_
  ·rintro pre x post e s ⟨o3,rfl⟩
   have hx:=h x (by rw [← hw,e]; simp)
   have hs : z1e T l pre < m:=z6E (h l ac) fun y hy=>h y (by rw [← hw,e]; simp [hy])
   rw [z7m]
   simp! only [nD,ix2 sq hx hs]
   cases at2 T x (z1e T l pre) with
   | true=>simp! only [z0d]; exact ⟨_,rfl⟩
   | false=>simp! only [z0d]; exact ⟨_,rfl⟩
  ·rintro s ⟨o3,rfl⟩
   have e : z1e T l w=z1e T l q:=by
    rw [hw]
    show z1e T (if at2 T l l=true then l else l) q=_
    split <;> rfl
   rw [e]
   exact ⟨_,rfl,_,rfl⟩
 ·rintro s ⟨o3,rfl⟩
  simp! only [z0d]
theorem y6B {m : Nat} {T : List (List Bool)} (sq : Sq m T) (hm : m≤900) {o : List Nat} (hp : o.Perm (ah m)) : z2x [z0r T,thD o]=some (thD (z1S T o)):=by
 refine z0H rfl ?_
 have hlt:=z4h hp
 have hlen:=z2r hp
 simp! only [z4f,z3R,y4o,y1F]
 refine z0E (I:=fun s=>∃ o3,s=[some (.sh (z0r T)),some (.sh (thD o)),some (.ow (thD (z1S T o))),o3]) ?_ ?_
 ·refine z1r (fun pre s=>∃ o3,s=[some (.sh (z0r T)),some (.sh (thD o)),some (.ow (thD (z1S T pre.reverse))),o3]) ⟨_,rfl⟩ ?_ fun s ⟨o3,z⟩=>⟨s,rfl,o3,by rw [z,cf]⟩
  rintro pre x post e s ⟨o3,rfl⟩
  have hx:=hlt x (by rw [← cH,e]; simp)
  have hsub:=chBk_sub (T:=T) (o:=pre.reverse)
  have hpl : pre.length≤m:=by
   have : o.reverse.length=(pre ++ x :: post).length:=by rw [e]
   simp at this
   omega
  have hl : (z1S T pre.reverse).length≤900:=by
   have:=hsub.length_le
   rw [bG] at this
   omega
  have hc : ∀ y∈z1S T pre.reverse,y < m:=fun y hy=>hlt y (by
   have:=hsub.subset hy
   rw [← cH,e]
   simp at this
   simp [this])
  have er : (pre ++ [x]).reverse=x :: pre.reverse:=by simp
  rw [er,z1S]
  have ba : decide ((((List.map nD ((z1S T pre.reverse).filter fun j=>!at2 T x j)).length : Nat) : Int)=0)=(z1S T pre.reverse).all fun j=>at2 T x j:=by
   rw [aq]
   cases hz : (z1S T pre.reverse).all fun j=>at2 T x j with
   | true=>
    have : (z1S T pre.reverse).filter (fun j=>!at2 T x j)=[]:=bj.mpr fun y hy=>by rw [aT.mp hz y hy]; simp
    rw [this]
    rfl
   | false=>
    refine decide_eq_false fun w=>?_
    have w : ((z1S T pre.reverse).filter fun j=>!at2 T x j)=[]:=bR.mp (by omega)
    rw [bj] at w
    rw [List.all_eq_false] at hz
    obtain ⟨y,hy,hn⟩:=hz
    exact w y hy (by simpa using hn)
  have cx : z2a (some ((z1S T pre.reverse).map nD)) (z3a (z6p (z0I (d2 ixD (d2 ixD (z0c 0) (z0c 3)) (z0c 4)))) (z0c 4) [some (z0r T),some (thD o),some (thD (z1S T pre.reverse)),some (.int (x : Int))])=some (((z1S T pre.reverse).filter fun j=>!at2 T x j).map nD):=
   y1D (fun j=>!at2 T x j) nD (by omega) (fun j hj=>by simp! only [nD,ix2 sq hx (hc j hj)]) fun j hj _=>by simp! only []
  have im : y4q (some [.int 0,.int (x : Int)])=some [.int 0,.int (x : Int)]:=z8C rfl
  have iv : m0V insF (some (thD (z1S T pre.reverse))) (some [.int 0,.int (x : Int)])=some (thD (x :: z1S T pre.reverse)):=by
   have:=ins_thV (o:=z1S T pre.reverse) (b:=0) (v:=x) (by omega) (by omega)
   simpa using this
  simp! only [nD,z3d,cx,ba]
  cases (z1S T pre.reverse).all fun j=>at2 T x j with
  | true=>simp! only [im,iv,z0d,if_true]; exact ⟨_,rfl⟩
  | false=>simp! only [z0d,cB,if_false]; exact ⟨_,rfl⟩
 ·rintro s ⟨o3,rfl⟩
  simp! only [z0d]
theorem z3f {a b : Str} {c : Bool} (h1 : okP (.str a)=true) (h2 : okP (.str b)=true) (h : PyData.eqv (.str a) (.str b)=c) : eqD (.str a) (.str b)=some (.bl c):=by
 unfold eqD
 rw [h1,h2]
 show some (D.bl (PyData.eqv (.str a) (.str b)))=_
 rw [h]
theorem k_pp : eqD (.str "plain") (.str "plain")=some (.bl true):=z3f (by decide +kernel) (by decide +kernel) (by decide +kernel)
theorem k_ap : eqD (.str "ahead") (.str "plain")=some (.bl false):=z3f (by decide +kernel) (by decide +kernel) (by decide +kernel)
theorem k_aa : eqD (.str "ahead") (.str "ahead")=some (.bl true):=z3f (by decide +kernel) (by decide +kernel) (by decide +kernel)
theorem k_rp : eqD (.str "rest") (.str "plain")=some (.bl false):=z3f (by decide +kernel) (by decide +kernel) (by decide +kernel)
theorem k_ra : eqD (.str "rest") (.str "ahead")=some (.bl false):=z3f (by decide +kernel) (by decide +kernel) (by decide +kernel)
theorem k_rr : eqD (.str "rest") (.str "rest")=some (.bl true):=z3f (by decide +kernel) (by decide +kernel) (by decide +kernel)
theorem y0y {r0 : List Bool} : ∀ (r : List Bool) (k : Nat),z1Z (two (z3T (z0I (z0c 2)) (z0c 1) [some (z4L r0)])) (z0u k (r.map bD))=some ((z4K k r).map nD)
 | [],_=>rfl
 | b :: r,k=>by
  have ih:=y0y (r0:=r0) r (k + 1)
  rw [aM]
  show z1Z _ (.tup [.int (k : Nat),bD b] :: z0u (k + 1) (r.map bD))=_
  unfold z1Z
  rw [ih]
  have e : two (z3T (z0I (z0c 2)) (z0c 1) [some (z4L r0)]) (.tup [.int (k : Nat),bD b])=some (if b=true then some (nD k) else none):=by
   show z3T _ _ _ _ _=_
   unfold z3T
   have e1 : z0I (z0c 2) ([some (z4L r0)] ++ [some (.int (k : Nat)),some (bD b)])=some b:=rfl
   rw [e1]
   cases b <;> rfl
  have t : z4K k (b :: r)=if b=true then k :: z4K (k + 1) r else z4K (k + 1) r:=rfl
  rw [e,t]
  cases b <;> rfl
theorem y7g (r : List Bool) (hl : r.length≤1000) : z1Y [z4L r]=some (thD ((ah r.length).filter fun i=>r.getD i false)):=by
 refine z0H rfl ?_
 have e : z4K 0 r=(ah r.length).filter fun i=>r.getD i false:=by
  rw [y4H,List.range_eq_range']
  rfl
 have h0 : z9K (z4L r)=some (z0u 0 (r.map bD)):=rfl
 have hl' : (z0u 0 (r.map bD)).length≤1000000:=by rw [z6T,aq]; omega
 have fl:=z8j (z9r (z4K 0 r))
 simp! only [z3O,h0,z4Z hl',y0y,fl,z0d]
 rw [e]
 rfl
theorem z9M {n : Nat} {T : List (List Bool)} (sq : Sq n T) (hn : n≤1000) {k : Nat} (hk : k < n) : z1n [z0r T,.int (k : Int)]=some (thD ((ah n).filter fun j=>at2 T k j)):=by
 refine z0H rfl ?_
 have hk' : k < T.length:=by rw [sq.1]; exact hk
 have p:=y7g (T.getD k []) (by rw [sq.len hk]; omega)
 rw [sq.len hk] at p
 simp! only [z4Y,y6w hk',p,z0d]
 rfl
def ky (n : Nat) : Key:=.inl (n : Int)
def stD (ks : List Nat) (vs : List Nat) : D:=.dct (ks.map ky) (vs.map nD)
theorem y5X {ks vs : List Nat} {y : Nat} : inK (.int (y : Int)) (stD ks vs)=some (ks.contains y):=by
 show some (y0G (ks.map ky) (.inl (y : Int)))=_
 congr 1
 unfold y0G
 rw [c8,dS]
 congr 1
 funext z
 show decide ((Sum.inl (z : Int) : Key)=Sum.inl (y : Int))=(y == z)
 by_cases h : z=y
 ·subst h; simp
 ·have h1 : decide ((Sum.inl (z : Int) : Key)=Sum.inl (y : Int))=false:=decide_eq_false fun e=>h (by cases e; rfl)
  have h2 : (y == z)=false:=by rw [beq_eq_false_iff_ne]; exact fun e=>h e.symm
  rw [h1,h2]
theorem st_put {ks vs : List Nat} {x y : Nat} (h : y ∉ ks) (hl : ks.length≤1000000) : y4s (some (stD ks vs)) (some (.int (y : Int))) (some (.int (x : Int)))=some (stD (ks ++ [y]) (vs ++ [x])):=by
 show (if z2z (vs.map nD)=true∧(ks.map ky).length < sizeLine then _ else _)=_
 rw [if_pos ⟨z9r vs,by rw [aq,PySem.sizeLine_eq]; omega⟩]
 have hh : y0G (ks.map ky) (.inl (y : Int))=false:=by
  have:=y5X (ks:=ks) (vs:=vs) (y:=y)
  have hc : ks.contains y=false:=by rw [← bp,aC]; exact h
  rw [hc] at this
  exact Option.some.inj this
 unfold z9z y0p stD
 rw [hh,if_neg ax,if_neg ax,aP,aP]
 rfl
inductive Rch (T : List (List Bool)) (m a : Nat) : Nat->Prop
 | here : Rch T m a a
 | step {x y : Nat} : Rch T m a x->y < m->at2 T x y=true->Rch T m a y
structure Stp (T : List (List Bool)) (m a : Nat) (ks : List Nat) : Prop where
 nd : ks.Nodup
 lt : ∀ x∈ks,x < m
 on : a∈ks
 rc : ∀ x∈ks,Rch T m a x
def Cld (T : List (List Bool)) (m : Nat) (ks : List Nat) (x : Nat) : Prop:=∀ y < m,at2 T x y=true->y∈ks
theorem Stp.add {T : List (List Bool)} {m a x y : Nat} {ks : List Nat} (P : Stp T m a ks) (hx : x∈ks) (hy : y < m) (h : at2 T x y=true) (hn : y ∉ ks) : Stp T m a (ks ++ [y]):=
 ⟨aW.mpr ⟨P.nd,by simp,fun u hu v hv z=>by rw [ai] at hv; exact hn (hv ▸ z ▸ hu)⟩,fun z hz=>by
  rcases ay.mp hz with q | q
  ·exact P.lt z q
  ·rw [ai.mp q]; exact hy,ay.mpr (.inl P.on),fun z hz=>by
  rcases ay.mp hz with q | q
  ·exact P.rc z q
  ·rw [ai.mp q]; exact .step (P.rc x hx) hy h⟩
theorem Stp.len {T : List (List Bool)} {m a : Nat} {ks : List Nat} (P : Stp T m a ks) : ks.length≤m:=by
 have:=List.Nodup.length_le_of_subset (l₂:=ah m) P.nd fun x hx=>au.mpr (P.lt x hx)
 simpa using this
theorem y8f {m : Nat} {T : List (List Bool)} (sq : Sq m T) (hm : m≤90) {a : Nat} (ha : a < m) : hol (z2A [z0r T,.int (a : Int)]) fun d=>∃ ks vs,d=stD ks vs∧Stp T m a ks∧∀ x∈ks,Cld T m ks x:=by
 refine z7h rfl ?_
 have s0 : D.dct [.inl (a : Int)] [.int (a : Int)]=stD [a] [a]:=rfl
 have f0 : z5H (some [.int (a : Int)])=some [.int (a : Int)]:=rfl
 simp! only [z3X,s0,f0,y7a]
 refine z0E (I:=fun s=>∃ ks vs o3 o4 o5 o6,s=[some (.sh (z0r T)),some (.sh (.int (a : Int))),some (.ow (stD ks vs)),o3,o4,o5,o6]∧Stp T m a ks∧∀ x∈ks,Cld T m ks x) ?_ ?_
 ·refine z5s (fun n s=>∃ ks vs E o5 o6,s=[some (.sh (z0r T)),some (.sh (.int (a : Int))),some (.ow (stD ks vs)),some (.ow (thD E)),none,o5,o6]∧Stp T m a ks∧(∀ x∈E,x∈ks)∧(∀ x∈ks,x ∉ E->Cld T m ks x)∧(E≠[]->m + 1≤ks.length + n)) (n:=m) ⟨[a],[a],[a],_,_,rfl,⟨by simp,fun x hx=>by rw [ai.mp hx]; exact ha,by simp,fun x hx=>by rw [ai.mp hx]; exact .here⟩,fun x hx=>hx,fun x hx hn=>absurd hx hn,fun _=>by simp; omega⟩ ?_ (by omega)
  rintro n s ⟨ks,vs,E,o5,o6,rfl,P,hE,hC,hn⟩
  refine ⟨!E.isEmpty,by simp! only [tru_th],fun hz=>?_,fun hz=>?_⟩
  ·have hz : E=[]:=by simpa using hz
   exact ⟨_,rfl,ks,vs,_,_,_,_,rfl,P,fun x hx=>hC x hx (by rw [hz]; simp)⟩
  ·have hz : E≠[]:=by simpa using hz
   have hn:=hn hz
   have hl:=P.len
   refine ⟨n - 1,by omega,?_⟩
   simp! only [z3R,y4o,z3d]
   refine z0E (I:=fun s=>∃ F ws o5 o6,s=[some (.sh (z0r T)),some (.sh (.int (a : Int))),some (.ow (stD (ks ++ F) ws)),some (.sh (thD E)),some (.ow (thD F)),o5,o6]∧Stp T m a (ks ++ F)∧∀ x∈E,Cld T m (ks ++ F) x) ?_ ?_
   ·refine z1r (fun pre s=>∃ F ws o5 o6,s=[some (.sh (z0r T)),some (.sh (.int (a : Int))),some (.ow (stD (ks ++ F) ws)),some (.sh (thD E)),some (.ow (thD F)),o5,o6]∧Stp T m a (ks ++ F)∧∀ x∈pre,Cld T m (ks ++ F) x) ⟨[],vs,_,_,by rw [aG],by rw [aG]; exact P,fun x hx=>nomatch hx⟩ ?_ fun s z=>⟨s,rfl,z⟩
    rintro pre x post e s ⟨F,ws,o5,o6,rfl,P1,C1⟩
    have hxE : x∈E:=by rw [e]; simp
    have hxk:=hE x hxE
    have hxm:=P.lt x hxk
    simp! only [nD,z9M sq (show m≤1000 by omega) hxm,z3d]
    refine z1r (fun q s=>∃ F ws o6,s=[some (.sh (z0r T)),some (.sh (.int (a : Int))),some (.ow (stD (ks ++ F) ws)),some (.sh (thD E)),some (.ow (thD F)),some (.sh (.int (x : Int))),o6]∧Stp T m a (ks ++ F)∧(∀ x∈pre,Cld T m (ks ++ F) x)∧∀ y∈q,y∈ks ++ F) ⟨F,ws,_,rfl,P1,C1,fun y hy=>nomatch hy⟩ ?_ ?_
    ·rintro q y r e2 s ⟨F,ws,o6,rfl,P2,C2,Q2⟩
     have hy : y∈(ah m).filter fun j=>at2 T x j:=by rw [e2]; simp
     have hy:=ak.mp hy
     have hym:=au.mp hy.1
     have hl2:=P2.len
     cases hc : (ks ++ F).contains y with
     | true=>
      simp! only [nD,y5X,hc,bH,Bool.not_true,z0d]
      refine ⟨F,ws,_,rfl,P2,C2,fun z hz=>?_⟩
      rcases ay.mp hz with z1 | z1
      ·exact Q2 z z1
      ·rw [ai.mp z1]; exact aC.mp hc
     | false=>
      have hny : y ∉ ks ++ F:=fun z=>by rw [aC.mpr z] at hc; cases hc
      have im : y4q (some [.int (y : Int)])=some [.int (y : Int)]:=z8C rfl
      have pt:=st_put (vs:=ws) (x:=x) hny (by omega)
      have ap:=app_thV (th:=F) (k:=y) (by rw [aH] at hl2; omega)
      have P3:=P2.add (ay.mpr (.inl hxk)) hym hy.2 hny
      rw [aL] at P3 pt
      have sub : ∀ z,z∈ks ++ F->z∈ks ++ (F ++ [y]):=fun z hz=>by rw [← aL]; exact ay.mpr (.inl hz)
      simp! only [nD,y5X,hc,bH,Bool.not_false,pt,im,ap,z0d]
      refine ⟨F ++ [y],_,_,rfl,P3,fun z hz w hw h=>sub w (C2 z hz w hw h),fun z hz=>?_⟩
      rcases ay.mp hz with z1 | z1
      ·exact sub z (Q2 z z1)
      ·rw [ai.mp z1]; simp
    ·rintro s ⟨F,ws,o6,rfl,P2,C2,Q2⟩
     refine ⟨F,ws,_,_,rfl,P2,fun z hz=>?_⟩
     rcases ay.mp hz with z1 | z1
     ·exact C2 z z1
     ·rw [ai.mp z1]
      exact fun y hy h=>Q2 y (ak.mpr ⟨au.mpr hy,h⟩)
   ·rintro s ⟨F,ws,o5,o6,rfl,P1,C1⟩
    simp! only [z0d]
    refine ⟨ks ++ F,ws,F,_,_,rfl,P1,fun x hx=>ay.mpr (.inr hx),fun x hx hnx=>?_,fun hF=>?_⟩
    ·have hxk : x∈ks:=by
      rcases ay.mp hx with z | z
      ·exact z
      ·exact absurd z hnx
     by_cases hxE : x∈E
     ·exact C1 x hxE
     ·exact fun y hy h=>ay.mpr (.inl (hC x hxk hxE y hy h))
    ·have : 0 < F.length:=cr.mpr hF
     rw [aH]
     omega
 ·rintro s ⟨ks,vs,o3,o4,o5,o6,rfl,P,C⟩
  simp! only [z0d]
  exact ⟨_,rfl,ks,vs,rfl,P,C⟩
open Classical in
noncomputable def rcL (T : List (List Bool)) (m a : Nat) : List Nat:=(ah m).filter fun x=>decide (Rch T m a x)
theorem rcL_mem {T : List (List Bool)} {m a x : Nat} : x∈rcL T m a↔x < m∧Rch T m a x:=by
 unfold rcL
 rw [ak,au]
 exact and_congr_right fun _=>@decide_eq_true_iff _ (Classical.propDecidable _)
theorem rcL_len {T : List (List Bool)} {m a : Nat} : (rcL T m a).length≤m:=by
 have:=bg (fun x=>@decide (Rch T m a x) (Classical.propDecidable _)) (ah m)
 rw [bE] at this
 exact this
theorem y5t : ∀ ks : List Nat,z5B (ks.map ky)=some (ks.map fun n=>((n : Nat) : Int))
 | []=>rfl
 | k :: ks=>by
  show (z5B (ks.map ky)).map (fun ns=>(k : Int) :: ns)=_
  rw [y5t ks]
  rfl
theorem y3T {m : Nat} {T : List (List Bool)} (sq : Sq m T) (hm : m≤60) {a : Nat} (ha : a < m) : z3y [z0r T,.int (a : Int)]=some (thD (rcL T m a)):=by
 refine z0H rfl ?_
 obtain ⟨d,e,ks,vs,rfl,P,C⟩:=y8f sq (by omega) ha
 have hl:=P.len
 have hin : ∀ x,x∈ks↔x∈rcL T m a:=fun x=>by
  rw [rcL_mem]
  refine ⟨fun h=>⟨P.lt x h,P.rc x h⟩,fun h=>?_⟩
  have : ∀ y,Rch T m a y->y∈ks:=fun y r=>by
   induction r with
   | here=>exact P.on
   | step r1 hy h ih=>exact C _ ih _ hy h
  exact this x h.2
 have nd2 : (rcL T m a).Nodup:=List.Pairwise.filter _ bZ
 have pm : ((rcL T m a).map fun n=>((n : Nat) : Int)).Perm (ks.map fun n=>((n : Nat) : Int)):=((bN nd2 P.nd).mpr fun x=>(hin x).symm).map _
 have so : ((rcL T m a).map fun n=>((n : Nat) : Int)).Pairwise (· ≤ ·):=by
  rw [bT]
  refine List.Pairwise.imp ?_ (List.Pairwise.filter _ bU)
  intro x y h
  omega
 have es:=y7f pm so
 have st : z9D [stD ks vs]=some ((rcL T m a).map nD):=by
  show ((z5B (ks.map ky)).bind fun ns=>if ns.length < 64 then some ((y9c ns).map D.int) else none)=_
  rw [y5t,am,if_pos (by rw [aq]; omega),← es,bq]
  rfl
 simp! only [z6N,e,st,z2U,z6l,z0d]
noncomputable def y3L (T : List (List Bool)) (m : Nat) : List Nat:=(ah m).map fun a=>(rcL T m a).length
def plL (cs : List Nat) (c : Nat) : List Nat:=(cs.zipIdx.filter fun z=>decide ((z.1 : Int)=(c : Int))).map fun z=>z.2
theorem plL_mem {cs : List Nat} {c i : Nat} : i∈plL cs c↔cs[i]? = some c:=by
 unfold plL
 rw [aZ]
 constructor
 ·rintro ⟨z,hz,rfl⟩
  obtain ⟨h1,h2⟩:=ak.mp hz
  have h2 : z.1=c:=by have:=of_decide_eq_true h2; omega
  have:=dF.mp h1
  rw [this,h2]
 ·intro h
  exact ⟨(c,i),ak.mpr ⟨dF.mpr h,decide_eq_true rfl⟩,rfl⟩
theorem y3s {cs : List Nat} (hl : cs.length≤1000) (c : Nat) : z1z [thD cs,.int (c : Int)]=some (thD (plL cs c)):=by
 refine z0H rfl ?_
 have cx : z2a (some (z0u 0 (cs.map nD))) (two (z3T (z0F (d2 eqD (z0c 3) (z0c 1))) (z0c 2) [some (thD cs),some (.int (c : Int))]))=some ((plL cs c).map nD):=by
  rw [y5i (enc:=nD) (fun _ x=>decide ((x : Int)=(c : Int))) (fun i _=>nD i) hl (fun i h=>by simp! only [nD]) fun i h _=>by simp! only []; rfl]
  unfold plL
  rw [bq]
  rfl
 simp! only [z3F,y5N,cx,z2U,z6l,z0d]
def dnL (m : Nat) : List Nat:=(ah m).map fun i=>m - i
noncomputable def rgL (T : List (List Bool)) (m : Nat) : List (List Nat):=((dnL m).filter fun c=>(y3L T m).contains c).map fun c=>plL (y3L T m) c
theorem eo_rngN {i j c : Int} (h : c = -1∧-(2 ^ 61)≤i∧i < 2 ^ 61∧-(2 ^ 61)≤j∧j < 2 ^ 61) : rngN (some (.int i)) (some (.int j)) (some (.int c))=some (y5h i (-1) (i - j).toNat):=if_pos h
theorem y2E {m : Nat} {T : List (List Bool)} (sq : Sq m T) (hm : m≤60) : z5a [z0r T]=some (.lst ((rgL T m).map thD)):=by
 refine z0H rfl ?_
 have hcl : (y3L T m).length=m:=by simp [y3L]
 have c1 : z2a (some (z7n 0 m)) (z3a z5p (z0k z3v [z0k z3y [z0c 0,z0c 2]]) [some (z0r T),none])=some ((y3L T m).map nD):=by
  rw [z4m,z7O (enc:=nD) (xs:=ah m) (fun a=>nD (rcL T m a).length) (by simp; omega) fun a ha=>by simp! only [nD,y3T sq hm (au.mp ha),z6m]]
  unfold y3L
  rw [bq]
  rfl
 have rn : rngN (some (.int (m : Int))) (some (.int 0)) (some (.int (-1)))=some ((dnL m).map nD):=by
  have hz : ((m : Int) - 0).toNat=m:=by omega
  have e1 : rngN (some (.int (m : Int))) (some (.int 0)) (some (.int (-1)))=some (y5h (m : Int) (-1) ((m : Int) - 0).toNat):=eo_rngN ⟨rfl,by omega,by omega,by omega,by omega⟩
  have e2 : y5h (m : Int) (-1) m=(dnL m).map nD:=by
   unfold y5h dnL
   rw [bq]
   refine cR fun i hi=>?_
   have:=au.mp hi
   have e : (m : Int) + (i : Int) * (-1)=((m - i : Nat) : Int):=by omega
   exact congrArg D.int e
  rw [e1,hz,e2]
 have c2 : z2a (some ((dnL m).map nD)) (z3a (z0F (d2 inD (z0c 2) (z0c 1))) (z0k z1z [z0c 1,z0c 2]) [some (z0r T),some (thD (y3L T m))])=some ((rgL T m).map thD):=by
  rw [y1D (enc:=nD) (xs:=dnL m) (fun c=>(y3L T m).contains c) (fun c=>thD (plL (y3L T m) c)) (by simp [dnL]; omega) (fun c hc=>by simp! only [nD,y9H]) fun c hc _=>by simp! only [nD,y3s (show (y3L T m).length≤1000 by omega)]]
  unfold rgL
  rw [bq]
  rfl
 simp! only [y1b,z3W,sq.1,z1t (show m≤1000000 by omega),c1,z2U,z6l,rn,c2,z0d]
theorem Rch.trans {T : List (List Bool)} {m a b c : Nat} (h : Rch T m a b) (h2 : Rch T m b c) : Rch T m a c:=by
 induction h2 with
 | here=>exact h
 | step _ hy e ih=>exact .step ih hy e
theorem rch_tot {T : List (List Bool)} {m a b : Nat} (F : Full m T) (ha : a < m) (hb : b < m) : Rch T m a b∨Rch T m b a:=by
 by_cases e : a=b
 ·rw [e]; exact .inl .here
 ·cases h : at2 T a b with
  | true=>exact .inl (.step .here hb h)
  | false=>exact .inr (.step .here ha (by rw [F.two b hb a ha (Ne.symm e),h]; rfl))
theorem x0H {T : List (List Bool)} {m a : Nat} : (rcL T m a).Nodup:=List.Pairwise.filter _ bZ
theorem y1I {T : List (List Bool)} {m a b : Nat} (F : Full m T) (ha : a < m) (hb : b < m) : Rch T m a b↔(rcL T m b).length≤(rcL T m a).length:=by
 constructor
 ·intro h
  exact List.Nodup.length_le_of_subset x0H fun x hx=>rcL_mem.mpr ⟨(rcL_mem.mp hx).1,h.trans (rcL_mem.mp hx).2⟩
 ·intro h
  by_cases hn : Rch T m a b
  ·exact hn
  ·have h2 : Rch T m b a:=(rch_tot F ha hb).resolve_left hn
   have nd : (b :: rcL T m a).Nodup:=aE.mpr ⟨fun z=>hn (rcL_mem.mp z).2,x0H⟩
   have : (b :: rcL T m a).length≤(rcL T m b).length:=List.Nodup.length_le_of_subset nd fun x hx=>by
    rcases aj.mp hx with z | z
    ·rw [z]; exact rcL_mem.mpr ⟨hb,.here⟩
    ·exact rcL_mem.mpr ⟨(rcL_mem.mp z).1,h2.trans (rcL_mem.mp z).2⟩
   rw [bb] at this
   omega
theorem z9N {T : List (List Bool)} {m a b : Nat} (F : Full m T) (ha : a < m) (hb : b < m) (h : (rcL T m b).length < (rcL T m a).length) : at2 T a b=true:=by
 cases e : at2 T a b with
 | true=>rfl
 | false=>
  have hab : a≠b:=fun z=>by rw [z] at h; omega
  have h1 : Rch T m b a:=.step .here ha (by rw [F.two b hb a ha (Ne.symm hab),e]; rfl)
  have:=(y1I F hb ha).mp h1
  omega
theorem rch_pos {T : List (List Bool)} {m a : Nat} (ha : a < m) : 0 < (rcL T m a).length:=List.length_pos_of_mem (rcL_mem.mpr ⟨ha,.here⟩)
theorem uniqL {α : Type} {R : α->α->Prop} (as : ∀ x y,R x y->R y x->False) : ∀ {l l' : List α},l.Pairwise R->l'.Pairwise R->(∀ x,x∈l↔x∈l')->l=l'
 | [],[],_,_,_=>rfl
 | [],b :: l',_,_,h=>by have:=(h b).mpr ac; cases this
 | a :: l,[],_,_,h=>by have:=(h a).mp ac; cases this
 | a :: l,b :: l',p,p',h=>by
  have p1:=aQ.mp p
  have p2:=aQ.mp p'
  have e : a=b:=by
   rcases aj.mp ((h a).mp ac) with z | z
   ·exact z
   ·rcases aj.mp ((h b).mpr ac) with y | y
    ·exact y.symm
    ·exact (as a b (p1.1 b y) (p2.1 a z)).elim
  subst e
  refine congrArg _ (uniqL as p1.2 p2.2 fun x=>⟨fun hx=>?_,fun hx=>?_⟩)
  ·rcases aj.mp ((h x).mp (af _ hx)) with z | z
   ·subst z; exact (as x x (p1.1 x hx) (p1.1 x hx)).elim
   ·exact z
  ·rcases aj.mp ((h x).mpr (af _ hx)) with z | z
   ·subst z; exact (as x x (p2.1 x hx) (p2.1 x hx)).elim
   ·exact z
def Upp (f : Nat->Nat) (r s : List Nat) : Prop:=r≠[]∧s≠[]∧∀ a∈r,∀ b∈s,f b < f a
def cls (m : Nat) (f : Nat->Nat) (a : Nat) : List Nat:=(ah m).filter fun b=>decide (f b=f a)
structure Rgs (m : Nat) (f : Nat->Nat) (L : List (List Nat)) : Prop where
 pw : L.Pairwise (Upp f)
 mem : ∀ r,r∈L↔∃ a < m,r=cls m f a
theorem y3z {cs : List Nat} {c : Nat} : (plL cs c).Pairwise (· < ·):=by
 unfold plL
 rw [bT]
 refine List.Pairwise.filter _ ?_
 have h : (cs.zipIdx.map fun z=>z.2).Pairwise (· < ·):=by
  rw [show (cs.zipIdx.map fun z=>z.2)=dD 0 cs.length from List.zipIdx_map_snd 0 cs]
  exact List.pairwise_lt_range'
 exact bT.mp h
theorem z8k {T : List (List Bool)} {m : Nat} : Rgs m (fun a=>(rcL T m a).length) (rgL T m):=by
 have hc : ∀ a c,(y3L T m)[a]? = some c↔a < m∧(rcL T m a).length=c:=fun a c=>by
  unfold y3L
  rw [aN]
  by_cases h : a < m
  ·rw [cS h]
   simp [h]
  ·rw [bY (by simp; omega)]
   simp [h]
 have pe : ∀ a < m,plL (y3L T m) (rcL T m a).length=cls m (fun a=>(rcL T m a).length) a:=fun a ha=>
  uniqL (R:=(· < ·)) (fun x y h h'=>by omega) y3z (List.Pairwise.filter _ bU) fun x=>by
   rw [plL_mem,hc]
   unfold cls
   rw [ak,au,decide_eq_true_iff]
 refine ⟨?_,fun r=>?_⟩
 ·unfold rgL
  rw [bT]
  have hd : (dnL m).Pairwise (· > ·):=by
   unfold dnL
   rw [bT]
   refine List.Pairwise.imp_of_mem ?_ bU
   intro x y hx hy h
   have:=au.mp hy
   show m - y < m - x
   omega
  refine List.Pairwise.imp_of_mem ?_ (List.Pairwise.filter _ hd)
  intro c d hcm hdm hcd
  have hcm:=(ak.mp hcm).2
  have hdm:=(ak.mp hdm).2
  obtain ⟨i,hi⟩:=cQ (aC.mp hcm)
  obtain ⟨j,hj⟩:=cQ (aC.mp hdm)
  refine ⟨eP (plL_mem.mpr hi),eP (plL_mem.mpr hj),fun a ha b hb=>?_⟩
  have h1:=(hc a c).mp (plL_mem.mp ha)
  have h2:=(hc b d).mp (plL_mem.mp hb)
  show (rcL T m b).length < (rcL T m a).length
  have : c > d:=hcd
  omega
 ·unfold rgL
  rw [aZ]
  constructor
  ·rintro ⟨c,hcm,rfl⟩
   have hcm:=(ak.mp hcm).2
   obtain ⟨i,hi⟩:=cQ (aC.mp hcm)
   have h1:=(hc i c).mp hi
   exact ⟨i,h1.1,by rw [← h1.2,pe i h1.1]⟩
  ·rintro ⟨a,ha,rfl⟩
   refine ⟨(rcL T m a).length,ak.mpr ⟨?_,aC.mpr (eK ((hc a _).mpr ⟨ha,rfl⟩))⟩,pe a ha⟩
   unfold dnL
   have h1:=rcL_len (T:=T) (m:=m) (a:=a)
   have h2:=rch_pos (T:=T) ha
   exact aZ.mpr ⟨m - (rcL T m a).length,au.mpr (by omega),by omega⟩
def wk (T : List (List Bool)) : Nat->List Nat->Prop
 | _,[]=>True
 | x,y :: r=>at2 T x y=true∧wk T y r
def lsN : Nat->List Nat->Nat
 | x,[]=>x
 | _,y :: r=>lsN y r
theorem z4S : ∀ {a : List Nat} {x : Nat} {b : List Nat},lsN x (a ++ b)=lsN (lsN x a) b
 | [],_,_=>rfl
 | _ :: a,_,b=>z4S (a:=a) (b:=b)
theorem wk_app {T : List (List Bool)} : ∀ {a : List Nat} {x : Nat} {b : List Nat},wk T x (a ++ b)↔wk T x a∧wk T (lsN x a) b
 | [],_,_=>⟨fun h=>⟨trivial,h⟩,fun h=>h.2⟩
 | y :: a,x,b=>by
  have ih:=wk_app (T:=T) (a:=a) (x:=y) (b:=b)
  constructor
  ·rintro ⟨h1,h2⟩
   exact ⟨⟨h1,(ih.mp h2).1⟩,(ih.mp h2).2⟩
  ·rintro ⟨⟨h1,h2⟩,h3⟩
   exact ⟨h1,ih.mpr ⟨h2,h3⟩⟩
theorem y4S : ∀ {a : List Nat} {x : Nat},lsN x a∈x :: a
 | [],_=>ac
 | y :: a,x=>af _ (y4S (a:=a) (x:=y))
theorem y2B {a : List Nat} {c x : Nat} : lsN c (a ++ [x])=x:=z4S
structure Cyc (T : List (List Bool)) (c : Nat) (r : List Nat) : Prop where
 nd : (c :: r).Nodup
 wk : wk T c r
 cl : r≠[]->at2 T (lsN c r) c=true
inductive Det (T : List (List Bool)) (L : List Nat) (h b : Nat) : List Nat->Prop
 | one {x : Nat} : x∈L->at2 T h x=true->at2 T x b=true->Det T L h b [x]
 | two {x y : Nat} : x∈L->y∈L->at2 T h x=true->at2 T x y=true->at2 T y b=true->Det T L h b [x,y]
def y1y (T : List (List Bool)) (L : List Nat) (h b : Nat) : Prop:=(∀ x∈L,at2 T h x=true->at2 T x b=true->False)∧∀ x∈L,∀ y∈L,at2 T h x=true->at2 T x y=true->at2 T y b=true->False
theorem Det.wk {T : List (List Bool)} {L : List Nat} {h b : Nat} {w : List Nat} (D : Det T L h b w) : wk T h w∧at2 T (lsN h w) b=true∧w≠[]∧(∀ x∈w,x∈L):=by
 cases D with
 | one h1 h2 h3=>exact ⟨⟨h2,trivial⟩,h3,by simp,fun x hx=>by rw [ai.mp hx]; exact h1⟩
 | two h1 h2 h3 h4 h5=>exact ⟨⟨h3,h4,trivial⟩,h5,by simp,fun x hx=>by
   rcases aj.mp hx with z | z
   ·rw [z]; exact h1
   ·rw [ai.mp z]; exact h2⟩
theorem Det.nd {m : Nat} {T : List (List Bool)} (own : ∀ i < m,at2 T i i=false) {L : List Nat} (lt : ∀ x∈L,x < m) {h b : Nat} {w : List Nat} (D : Det T L h b w) : w.Nodup:=by
 cases D with
 | one h1 h2 h3=>simp
 | @two x y h1 h2 h3 h4 h5=>
  have : x≠y:=fun z=>by
   subst z
   rw [own x (lt x h1)] at h4
   cases h4
  simp [this]
theorem Cyc.put {m : Nat} {T : List (List Bool)} (own : ∀ i < m,at2 T i i=false) {c : Nat} {a b : List Nat} (C : Cyc T c (a ++ b)) {L w : List Nat} (lt : ∀ x∈L,x < m) (hL : ∀ x∈L,x ∉ c :: (a ++ b)) (D : Det T L (lsN c a) (b.headD c) w) : Cyc T c (a ++ w ++ b):=by
 obtain ⟨d1,d2,d3,d4⟩:=D.wk
 have hw:=D.nd own lt
 have cw:=wk_app.mp C.wk
 refine ⟨?_,?_,fun _=>?_⟩
 ·have p : (c :: (a ++ w ++ b)).Perm (w ++ (c :: (a ++ b))):=by
   have p1 : (a ++ w ++ b).Perm (w ++ (a ++ b)):=by
    rw [← aL w a b]
    exact (bK (l₁:=a) (l₂:=w)).append_right b
   exact (p1.cons c).trans List.perm_middle.symm
  rw [p.nodup_iff,aW]
  exact ⟨hw,C.nd,fun x hx y hy e=>hL x (d4 x hx) (e ▸ hy)⟩
 ·rw [wk_app,wk_app,z4S]
  refine ⟨⟨cw.1,d1⟩,?_⟩
  cases b with
  | nil=>exact trivial
  | cons y b=>exact ⟨d2,cw.2.2⟩
 ·rw [z4S,z4S]
  cases b with
  | nil=>exact d2
  | cons y b=>
   have:=C.cl (by simp)
   rw [z4S] at this
   exact this
theorem Cyc.all {c : Nat} {r : List Nat} {P : Nat->Prop} (H : ∀ pre x post,c :: r=pre ++ x :: post->P x->P (post.headD c)) {x : Nat} (hx : x∈c :: r) (hp : P x) : ∀ y∈c :: r,P y:=by
 have h0 : ∀ (post pre : List Nat) (x : Nat),c :: r=pre ++ x :: post->P x->P c:=fun post=>by
  induction post with
  | nil=>exact fun pre x e h=>H pre x [] e h
  | cons y post ih=>exact fun pre x e h=>ih (pre ++ [x]) y (by rw [e]; simp) (H pre x (y :: post) e h)
 obtain ⟨pre,post,e⟩:=cA hx
 have hc:=h0 post pre x e hp
 have h1 : ∀ (post pre : List Nat) (x : Nat),c :: r=pre ++ x :: post->P x->∀ y∈x :: post,P y:=fun post=>by
  induction post with
  | nil=>exact fun pre x e h y hy=>by rw [ai.mp hy]; exact h
  | cons z post ih=>
   intro pre x e h y hy
   rcases aj.mp hy with q | q
   ·rw [q]; exact h
   ·exact ih (pre ++ [x]) z (by rw [e]; simp) (H pre x (z :: post) e h) y q
 exact h1 r [] c rfl hc
def Stg (T : List (List Bool)) (R : List Nat) : Prop:=∀ S : Nat->Prop,(∃ x∈R,S x)->(∃ y∈R,¬S y)->∃ x∈R,∃ y∈R,S x∧¬S y∧at2 T x y=true
theorem Full.tot {m : Nat} {T : List (List Bool)} (F : Full m T) {x y : Nat} (hx : x < m) (hy : y < m) (hne : x≠y) : at2 T x y=true∨at2 T y x=true:=by
 have:=F.two x hx y hy hne
 cases h : at2 T x y with
 | true=>exact .inl rfl
 | false=>
  rw [h] at this
  cases h2 : at2 T y x with
  | true=>exact .inr rfl
  | false=>rw [h2] at this; cases this
theorem Full.no {m : Nat} {T : List (List Bool)} (F : Full m T) {x y : Nat} (hx : x < m) (hy : y < m) (h1 : at2 T x y=true) (h2 : at2 T y x=true) : False:=by
 by_cases hne : x=y
 ·subst hne
  rw [F.own x hx] at h1
  cases h1
 ·have:=F.two x hx y hy hne
  rw [h1,h2] at this
  cases this
theorem Cyc.full {m : Nat} {T : List (List Bool)} (F : Full m T) {R : List Nat} (lt : ∀ x∈R,x < m) (hR : Stg T R) {c : Nat} {r : List Nat} (hsub : ∀ x∈c :: r,x∈R) {L : List Nat} (hL : ∀ x,x∈L↔x∈R∧x ∉ c :: r) (no : ∀ pre x post,c :: r=pre ++ x :: post->y1y T L x (post.headD c)) : ∀ x∈R,x∈c :: r:=by
 intro z0 hz0
 apply Classical.byContradiction
 intro hn0
 have hd : ∀ {pre : List Nat} {x : Nat} {post : List Nat},c :: r=pre ++ x :: post->post.headD c∈c :: r:=fun {pre x post} e=>by
  cases post with
  | nil=>exact ac
  | cons y post=>rw [e]; simp
 have two : ∀ z∈L,∀ x∈c :: r,at2 T x z=true->∀ y∈c :: r,at2 T y z=true:=fun z hz x hx hxz=>by
  obtain ⟨hzR,hzn⟩:=(hL z).mp hz
  refine Cyc.all (P:=fun x=>at2 T x z=true) (fun pre x post e hp=>?_) hx hxz
  have hb:=hd e
  have hne : post.headD c≠z:=fun q=>hzn (q ▸ hb)
  rcases F.tot (lt _ (hsub _ hb)) (lt z hzR) hne with w | w
  ·exact w
  ·exact absurd w fun w=>(no pre x post e).1 z hz hp w
 obtain ⟨x1,hx1,b,hb,s1,s2,hxb⟩:=hR (fun x=>x∈c :: r) ⟨c,hsub c ac,ac⟩ ⟨z0,hz0,hn0⟩
 have hbL : b∈L:=(hL b).mpr ⟨hb,s2⟩
 have hbB:=two b hbL x1 s1 hxb
 obtain ⟨x2,hx2,a,ha,t1,t2,hxa⟩:=hR (fun z=>z∈L∧∀ y∈c :: r,at2 T y z=true) ⟨b,hb,hbL,hbB⟩ ⟨c,hsub c ac,fun q=>((hL c).mp q.1).2 ac⟩
 have hac : a ∉ c :: r:=fun q=>F.no (lt x2 hx2) (lt a ha) hxa (t1.2 a q)
 have haL : a∈L:=(hL a).mpr ⟨ha,hac⟩
 have haA : ∀ y∈c :: r,at2 T a y=true:=fun y hy=>by
  have hne : a≠y:=fun q=>hac (q ▸ hy)
  rcases F.tot (lt a ha) (lt y (hsub y hy)) hne with w | w
  ·exact w
  ·exact absurd ⟨haL,two a haL y hy w⟩ t2
 exact (no [] c r rfl).2 x2 t1.1 a haL (t1.2 c ac) hxa (haA _ (hd (pre:=[]) (x:=c) (post:=r) rfl))
theorem y8z {m : Nat} {T : List (List Bool)} (F : Full m T) {a : Nat} : Stg T (cls m (fun a=>(rcL T m a).length) a):=by
 rintro S ⟨x0,hx0,sx⟩ ⟨y0,hy0,sy⟩
 apply Classical.byContradiction
 intro hn
 obtain ⟨hx1,hx2⟩:=ak.mp hx0
 obtain ⟨hy1,hy2⟩:=ak.mp hy0
 have hx1:=au.mp hx1
 have hy1:=au.mp hy1
 have hx2 : (rcL T m x0).length=(rcL T m a).length:=of_decide_eq_true hx2
 have hy2 : (rcL T m y0).length=(rcL T m a).length:=of_decide_eq_true hy2
 have hr : Rch T m x0 y0:=(y1I F hx1 hy1).mpr (by omega)
 have key : ∀ z,Rch T m x0 z->z < m∧((rcL T m z).length < (rcL T m a).length∨((rcL T m z).length=(rcL T m a).length∧S z)):=fun z h=>by
  induction h with
  | here=>exact ⟨hx1,.inr ⟨hx2,sx⟩⟩
  | @step x y _ hy hxy ih=>
   refine ⟨hy,?_⟩
   have le : (rcL T m y).length≤(rcL T m x).length:=(y1I F ih.1 hy).mp (.step .here hy hxy)
   rcases ih.2 with q | ⟨q1,q2⟩
   ·exact .inl (by omega)
   ·by_cases hc : (rcL T m y).length=(rcL T m a).length
    ·refine .inr ⟨hc,Classical.byContradiction fun ns=>hn ⟨x,ak.mpr ⟨au.mpr ih.1,decide_eq_true q1⟩,y,ak.mpr ⟨au.mpr hy,decide_eq_true hc⟩,q2,ns,hxy⟩⟩
    ·exact .inl (by omega)
 rcases (key y0 hr).2 with q | q
 ·omega
 ·exact sy q.2
theorem z5l {x : Option Out} {b : SS->Option Out} {I : SS->Prop} {Q : D->Prop} (h : hol x fun o=>(∃ s,o = .nx s∧I s)∨∃ d,o = .rt d∧Q d) (k : ∀ s,I s->hol (b s) fun o=>∃ d,o = .rt d∧Q d) : hol (z9u x b) fun o=>∃ d,o = .rt d∧Q d:=by
 obtain ⟨o,rfl,q⟩:=h
 rcases q with ⟨s,rfl,q⟩ | ⟨d,rfl,q⟩
 ·exact k s q
 ·exact ⟨_,rfl,d,rfl,q⟩
theorem y6z {m : Nat} {T : List (List Bool)} (sq : Sq m T) {h b : Nat} (hh : h < m) (hb : b < m) {L : List Nat} (lt : ∀ x∈L,x < m) : hol (z4t [z0r T,.int (h : Int),.int (b : Int),thD L]) fun d=>∃ w,d=thD w∧(Det T L h b w∨(w=[]∧y1y T L h b)):=by
 refine z7h rfl ?_
 simp! only [z8F,z3d]
 refine z5l (I:=fun s=>∃ o4,s=[some (.sh (z0r T)),some (.sh (.int (h : Int))),some (.sh (.int (b : Int))),some (.sh (thD L)),o4,none]∧∀ x∈L,at2 T h x=true->at2 T x b=true->False) ?_ ?_
 ·refine z1r (enc:=nD) (fun pre s=>∃ o4,s=[some (.sh (z0r T)),some (.sh (.int (h : Int))),some (.sh (.int (b : Int))),some (.sh (thD L)),o4,none]∧∀ x∈pre,at2 T h x=true->at2 T x b=true->False) ⟨_,rfl,fun x hx=>(by cases hx)⟩ ?_ fun s z=>.inl ⟨s,rfl,z⟩
  rintro pre x post e s ⟨o4,rfl,hp⟩
  have hxL : x∈L:=by rw [e]; simp
  have hx:=lt x hxL
  have w1 : z5H (some [D.int (x : Int)])=some ([x].map nD):=rfl
  have i1:=ix2 sq hh hx
  have i2:=ix2 sq hx hb
  obtain ⟨p,h1⟩ : ∃ p,at2 T h x=p:=⟨_,rfl⟩
  obtain ⟨q,h2⟩ : ∃ q,at2 T x b=q:=⟨_,rfl⟩
  rw [h1] at i1
  rw [h2] at i2
  have more : (p && q)=false->∀ y∈pre ++ [x],at2 T h y=true->at2 T y b=true->False:=fun hk y hy=>by
   rcases ay.mp hy with z | z
   ·exact hp y z
   ·rw [ai.mp z,h1,h2]
    intro g1 g2
    rw [g1,g2] at hk
    cases hk
  cases hpq : p && q with
  | false=>
   have mr:=more hpq
   simp! only [nD,i1,i2,hpq,z0d]
   exact ⟨_,rfl,mr⟩
  | true=>
   obtain ⟨g1,g2⟩:=az.mp hpq
   simp! only [nD,i1,i2,hpq,w1,z0d]
   exact .inr ⟨_,rfl,[x],rfl,.inl (.one hxL (h1.trans g1) (h2.trans g2))⟩
 ·rintro s ⟨o4,rfl,hn1⟩
  simp! only [z3d]
  refine z5l (I:=fun s=>∀ x∈L,∀ y∈L,at2 T h x=true->at2 T x y=true->at2 T y b=true->False) ?_ ?_
  ·refine z1r (enc:=nD) (fun pre s=>∃ o4 o5,s=[some (.sh (z0r T)),some (.sh (.int (h : Int))),some (.sh (.int (b : Int))),some (.sh (thD L)),o4,o5]∧∀ x∈pre,∀ y∈L,at2 T h x=true->at2 T x y=true->at2 T y b=true->False) ⟨_,_,rfl,fun x hx=>(by cases hx)⟩ ?_ fun s ⟨_,_,_,z⟩=>.inl ⟨s,rfl,z⟩
   rintro pre x post e s ⟨o4,o5,rfl,hp⟩
   have hxL : x∈L:=by rw [e]; simp
   have hx:=lt x hxL
   simp! only [z3d]
   have key : hol (z9i 5 (ifO (z8Q (z0I (d2 ixD (d2 ixD (z0c 0) (z0c 1)) (z0c 4))) (z8Q (z0I (d2 ixD (d2 ixD (z0c 0) (z0c 4)) (z0c 5))) (z0I (d2 ixD (d2 ixD (z0c 0) (z0c 5)) (z0c 2))))) (z7u (z0C (z0o [z0c 4,z0c 5]))) z1a) (L.map nD) [some (.sh (z0r T)),some (.sh (.int (h : Int))),some (.sh (.int (b : Int))),some (.sh (thD L)),some (.sh (nD x)),o5]) fun o=>(∃ s,o = .nx s∧∃ o5,s=[some (.sh (z0r T)),some (.sh (.int (h : Int))),some (.sh (.int (b : Int))),some (.sh (thD L)),some (.sh (nD x)),o5]∧∀ y∈L,at2 T h x=true->at2 T x y=true->at2 T y b=true->False)∨∃ d,o = .rt d∧∃ w,d=thD w∧(Det T L h b w∨(w=[]∧y1y T L h b)):=by
    refine z1r (enc:=nD) (fun pre s=>∃ o5,s=[some (.sh (z0r T)),some (.sh (.int (h : Int))),some (.sh (.int (b : Int))),some (.sh (thD L)),some (.sh (nD x)),o5]∧∀ y∈pre,at2 T h x=true->at2 T x y=true->at2 T y b=true->False) ⟨_,rfl,fun x hx=>(by cases hx)⟩ ?_ fun s z=>.inl ⟨s,rfl,z⟩
    rintro pre y post e s ⟨o5,rfl,hq⟩
    have hyL : y∈L:=by rw [e]; simp
    have hy:=lt y hyL
    have w2 : z5H (some [D.int (x : Int),D.int (y : Int)])=some ([x,y].map nD):=rfl
    have i1:=ix2 sq hh hx
    have i2:=ix2 sq hx hy
    have i3:=ix2 sq hy hb
    obtain ⟨p1,h1⟩ : ∃ p,at2 T h x=p:=⟨_,rfl⟩
    obtain ⟨p2,h2⟩ : ∃ q,at2 T x y=q:=⟨_,rfl⟩
    obtain ⟨p3,h3⟩ : ∃ q,at2 T y b=q:=⟨_,rfl⟩
    rw [h1] at i1
    rw [h2] at i2
    rw [h3] at i3
    have more : (p1 && (p2 && p3))=false->∀ z∈pre ++ [y],at2 T h x=true->at2 T x z=true->at2 T z b=true->False:=fun hk z hz=>by
     rcases ay.mp hz with q | q
     ·exact hq z q
     ·rw [ai.mp q,h1,h2,h3]
      intro g1 g2 g3
      rw [g1,g2,g3] at hk
      cases hk
    cases hpq : p1 && (p2 && p3) with
    | false=>
     have mr:=more hpq
     simp! only [nD,i1,i2,i3,hpq,z0d]
     exact ⟨_,rfl,mr⟩
    | true=>
     obtain ⟨g1,g2⟩:=az.mp hpq
     obtain ⟨g2,g3⟩:=az.mp g2
     simp! only [nD,i1,i2,i3,hpq,w2,z0d]
     exact .inr ⟨_,rfl,[x,y],rfl,.inl (.two hxL hyL (h1.trans g1) (h2.trans g2) (h3.trans g3))⟩
   obtain ⟨o,eo,q⟩:=key
   refine ⟨o,eo,?_⟩
   rcases q with ⟨s',rfl,o5',rfl,hq⟩ | ⟨d,rfl,hq⟩
   ·refine ⟨_,_,rfl,fun z hz=>?_⟩
    rcases ay.mp hz with w | w
    ·exact hp z w
    ·rw [ai.mp w]; exact hq
   ·exact .inr ⟨d,rfl,hq⟩
  ·intro s hn2
   have w0 : z5H (some ([] : List D))=some (([] : List Nat).map nD):=rfl
   simp! only [w0,z0d]
   exact ⟨_,rfl,[],rfl,.inr ⟨rfl,hn1,hn2⟩⟩
theorem cut_up {o : List Nat} {k : Nat} (h : k + 1≤o.length) : y7K (some (thD o)) (some none) (some (some ((k : Int) + 1)))=some ((o.take (k + 1)).map nD):=by
 show some (z8O (o.map nD) none (some ((k + 1 : Nat) : Int)))=_
 rw [z6L (by simpa using h),cW]
def z7D (C R : List Nat) : List Nat:=R.filter fun x=>!C.contains x
theorem left_mem {C R : List Nat} {x : Nat} : x∈z7D C R↔x∈R∧x ∉ C:=by
 unfold z7D
 rw [ak]
 refine and_congr_right fun _=>?_
 constructor
 ·intro h hc
  rw [aC.mpr hc] at h
  cases h
 ·intro h
  have : C.contains x=false:=by rw [← bp,aC]; exact h
  rw [this]
  rfl
theorem y4N {c : Nat} {r pre post : List Nat} {x : Nat} (e : c :: r=pre ++ x :: post) : ∃ k : Nat,((pre.length : Int) + 1) % ((c :: r).length : Int)=(k : Int)∧ixD (thD (c :: r)) (.int (k : Int))=some (.int ((post.headD c : Nat) : Int)):=by
 have hl : (c :: r).length=pre.length + 1 + post.length:=by rw [e]; simp; omega
 rw [hl]
 cases post with
 | nil=>
  refine ⟨0,?_,ix0⟩
  show ((pre.length : Int) + 1) % ((pre.length + 1 + 0 : Nat) : Int)=0
  have : ((pre.length + 1 + 0 : Nat) : Int)=(pre.length : Int) + 1:=by omega
  rw [this,Int.emod_self]
 | cons y post=>
  refine ⟨pre.length + 1,?_,?_⟩
  ·have : ((pre.length + 1 : Nat) : Int)=(pre.length : Int) + 1:=by omega
   rw [← this]
   exact Int.emod_eq_of_lt (by omega) (by simp; omega)
  ·refine y6M ?_
   rw [aN,e]
   have : (pre ++ x :: y :: post)[pre.length + 1]? = some y:=by
    rw [be (by omega)]
    have : pre.length + 1 - pre.length=1:=by omega
    rw [this]
    rfl
   rw [this]
   rfl
inductive Wid (T : List (List Bool)) (R : List Nat) (c : Nat) (r : List Nat) : List Nat->Prop
 | same : (∀ pre x post,c :: r=pre ++ x :: post->y1y T (z7D (c :: r) R) x (post.headD c))->Wid T R c r (c :: r)
 | more {pre post w : List Nat} {x : Nat} : c :: r=pre ++ x :: post->Det T (z7D (c :: r) R) x (post.headD c) w->Wid T R c r (pre ++ [x] ++ w ++ post)
theorem y4k {m : Nat} {T : List (List Bool)} (sq : Sq m T) {c : Nat} {r R : List Nat} (hl : (c :: r).length≤1000) (hRl : R.length≤1000) (lt : ∀ x∈c :: r,x < m) (ltR : ∀ x∈R,x < m) : hol (z2X [z0r T,thD (c :: r),thD R]) fun d=>∃ C,d=thD C∧Wid T R c r C:=by
 refine z7h rfl ?_
 have ib:=@y4N c r
 have hdl : ∀ {pre : List Nat} {x : Nat} {post : List Nat},c :: r=pre ++ x :: post->post.headD c∈c :: r:=fun {pre x post} e=>by
  cases post with
  | nil=>exact ac
  | cons y post=>rw [e]; simp
 have wsame:=@Wid.same T R c r
 have wmore:=@Wid.more T R c r
 obtain ⟨C,hC⟩ : ∃ C,C=c :: r:=⟨_,rfl⟩
 rw [← hC] at ib hl lt wsame wmore hdl ⊢
 have cx : ∀ d3 d4 d5 d6 d7 : Option D,z2a (some (R.map nD)) (z3a (z0F (d2 y4m (z0c 8) (z0c 1))) (z0c 8) [some (z0r T),some (thD C),some (thD R),d3,d4,d5,d6,d7])=some ((z7D C R).map nD):=fun d3 d4 d5 d6 d7=>
  y1D (fun x=>!C.contains x) nD hRl (fun x hx=>by simp! only [nD,z5d]) fun x _ _=>by simp! only []
 have tl : ∀ W : List Nat,D.lst (W.map nD)=thD W:=fun _=>rfl
 have ltL : ∀ x∈z7D C R,x < m:=fun x hx=>ltR x (left_mem.mp hx).1
 have lll : (z7D C R).length≤1000:=aJ (bg _ _) hRl
 obtain ⟨L,hL⟩ : ∃ L,L=z7D C R:=⟨_,rfl⟩
 rw [← hL] at cx ltL lll wsame wmore
 have en : z9K (thD C)=some (z0u 0 (C.map nD)):=rfl
 simp! only [z7b,z3d,cx,tl,en]
 refine z5l (I:=fun s=>∃ o4 o5 o6 o7,s=[some (.sh (z0r T)),some (.sh (thD C)),some (.sh (thD R)),some (.sh (thD L)),o4,o5,o6,o7]∧∀ pre x post,C=pre ++ x :: post->y1y T L x (post.headD c)) ?_ ?_
 ·refine z8R (enc:=nD) (xs:=C) (fun p s=>∃ o4 o5 o6 o7,s=[some (.sh (z0r T)),some (.sh (thD C)),some (.sh (thD R)),some (.sh (thD L)),o4,o5,o6,o7]∧∀ pre x post,C=pre ++ x :: post->pre.length < p.length->y1y T L x (post.headD c)) ?_ ?_ (post:=C) (pre:=[]) rfl ⟨_,_,_,_,rfl,fun pre x post _ h=>absurd h (by simp)⟩
  ·rintro pre x post e s ⟨o4,o5,o6,o7,rfl,hp⟩
   obtain ⟨k,ek,ik⟩:=ib e
   have hx:=lt x (by rw [e]; simp)
   have hb:=lt _ (hdl e)
   obtain ⟨b,hbe⟩ : ∃ b,b=post.headD c:=⟨_,rfl⟩
   rw [← hbe] at ik hb
   have hpos : 0 < C.length:=by rw [hC]; simp
   have mk : z6i (.int ((pre.length : Int) + 1)) (.int (C.length : Int))=some (.int (k : Int)):=by rw [z4J (by omega),ek]
   obtain ⟨_,ed,w,rfl,hd⟩:=y6z sq hx hb ltL
   have ed : z4t [z0r T,.int (x : Int),.int (b : Int),thD L]=some (thD w):=ed
   simp! only [nD,z6m,mk,ik,ed]
   rcases hd with hd | ⟨rfl,hn⟩
   ·have hlw : w.length≤2:=by cases hd <;> simp
    obtain ⟨y,w',hw⟩ : ∃ y w',w=y :: w':=by
     cases w with
     | nil=>exact absurd rfl hd.wk.2.2.1
     | cons y w'=>exact ⟨y,w',rfl⟩
    have tr : z5r (thD w)=some true:=by rw [hw]; rfl
    have hle : pre.length + 1≤C.length:=by rw [e]; simp
    have c1:=cut_up (o:=C) (k:=pre.length) hle
    have c2:=z9c (o:=C) (k:=pre.length)
    have t1 : C.take (pre.length + 1)=pre ++ [x]:=by
     rw [e,List.take_append,bz (by omega)]
     have : pre.length + 1 - pre.length=1:=by omega
     rw [this]
     rfl
    have t2 : C.drop (pre.length + 1)=post:=by
     rw [e,List.drop_append,bI (by omega)]
     have : pre.length + 1 - pre.length=1:=by omega
     rw [this]
     rfl
    have pl : pre.length + post.length≤1000:=by
     have:=congrArg List.length e
     simp at this
     omega
    rw [t1] at c1
    rw [t2] at c2
    rw [hbe] at hd
    have wm:=wmore e hd
    have k1:=z6j (a:=pre ++ [x]) (b:=w) (by simp; omega)
    have k2:=z6j (a:=pre ++ [x] ++ w) (b:=post) (by simp; omega)
    obtain ⟨A2,hA2⟩ : ∃ A,A=pre ++ [x] ++ w ++ post:=⟨_,rfl⟩
    rw [← hA2] at k2 wm
    obtain ⟨A1,hA1⟩ : ∃ A,A=pre ++ [x] ++ w:=⟨_,rfl⟩
    rw [← hA1] at k1 k2
    obtain ⟨A0,hA0⟩ : ∃ A,A=pre ++ [x]:=⟨_,rfl⟩
    rw [← hA0] at c1 k1
    simp! only [tr,c1,tl,k1,c2,k2,z0d]
    exact .inr ⟨_,rfl,A2,rfl,wm⟩
   ·simp! only [tru_nil,z0d]
    refine ⟨_,_,_,_,rfl,fun pre' x' post' e' hlt=>?_⟩
    by_cases hq : pre'.length < pre.length
    ·exact hp pre' x' post' e' hq
    ·have hle : pre'.length=pre.length:=by simp at hlt; omega
     have:=List.append_inj (e'.symm.trans e) hle
     obtain ⟨rfl,he⟩:=this
     cases he
     rw [hbe] at hn
     exact hn
  ·rintro s ⟨o4,o5,o6,o7,rfl,hp⟩
   exact .inl ⟨_,rfl,_,_,_,_,rfl,fun pre x post e=>hp pre x post e (by rw [e]; simp)⟩
 ·rintro s ⟨o4,o5,o6,o7,rfl,hp⟩
  simp! only [z0d]
  exact ⟨_,rfl,C,rfl,wsame hp⟩
theorem y8X {c x : Nat} {r pre post : List Nat} (e : c :: r=pre ++ x :: post) : ∃ a,pre ++ [x]=c :: a∧r=a ++ post∧lsN c a=x:=by
 cases pre with
 | nil=>
  cases e
  exact ⟨[],rfl,rfl,rfl⟩
 | cons y pre=>
  have e1 : c=y:=(List.cons.inj e).1
  have e2 : r=pre ++ x :: post:=(List.cons.inj e).2
  subst e1
  exact ⟨pre ++ [x],rfl,by rw [e2]; simp,y2B⟩
theorem Wid.go {m : Nat} {T : List (List Bool)} (own : ∀ i < m,at2 T i i=false) {R : List Nat} (ltR : ∀ x∈R,x < m) {c : Nat} {r W : List Nat} (C : Cyc T c r) (hs : ∀ x∈c :: r,x∈R) (h : Wid T R c r W) (hl : (c :: r).length < W.length) : ∃ r',W=c :: r'∧Cyc T c r'∧∀ x∈c :: r',x∈R:=by
 cases h with
 | same _=>omega
 | @more pre post w x e D=>
  obtain ⟨a,e1,e2,e3⟩:=y8X e
  subst e2
  rw [← e3] at D
  have P:=Cyc.put own C (fun z hz=>ltR z (left_mem.mp hz).1) (fun z hz=>(left_mem.mp hz).2) D
  refine ⟨a ++ w ++ post,by rw [e1]; simp,P,fun z hz=>?_⟩
  obtain ⟨_,_,_,d4⟩:=D.wk
  rcases aj.mp hz with q | q
  ·rw [q]; exact hs c ac
  ·rcases ay.mp q with q | q
   ·rcases ay.mp q with q | q
    ·exact hs z (by simp [q])
    ·exact (left_mem.mp (d4 z q)).1
   ·exact hs z (by simp [q])
theorem Wid.stay {T : List (List Bool)} {R : List Nat} {c : Nat} {r W : List Nat} (h : Wid T R c r W) (hl : ¬(c :: r).length < W.length) : ∀ pre x post,c :: r=pre ++ x :: post->y1y T (z7D (c :: r) R) x (post.headD c):=by
 cases h with
 | same h=>exact h
 | more e D=>
  exfalso
  apply hl
  rw [e]
  have:=cr.mpr D.wk.2.2.1
  simp
  omega
theorem y9u {m : Nat} {T : List (List Bool)} (F : Full m T) (hm : m≤60) {c : Nat} {R' : List Nat} (up : (c :: R').Pairwise (· < ·)) (ltR : ∀ x∈c :: R',x < m) (hS : Stg T (c :: R')) : hol (z2f [z0r T,thD (c :: R')]) fun d=>∃ r,d=thD (c :: r)∧Cyc T c r∧∀ x,x∈c :: r↔x∈c :: R':=by
 refine z7h rfl ?_
 have mn:=y3Z up
 have hRn : (c :: R').Nodup:=up.imp fun h=>aF h
 have hRl : (c :: R').length≤m:=by simpa using List.Nodup.length_le_of_subset hRn fun x hx=>au.mpr (ltR x hx)
 have hcR : c∈c :: R':=ac
 obtain ⟨R,hR⟩ : ∃ R,R=c :: R':=⟨_,rfl⟩
 rw [← hR] at mn hRn hRl hcR ltR hS ⊢
 have t1 : D.lst [.int (c : Int)]=thD [c]:=rfl
 have wd : ∀ {r : List Nat},Cyc T c r->(∀ x∈c :: r,x∈R)->∃ W,z2X [z0r T,thD (c :: r),thD R]=some (thD W)∧Wid T R c r W:=fun {r} C hs=>by
  have hl : (c :: r).length≤R.length:=List.Nodup.length_le_of_subset C.nd hs
  obtain ⟨_,e,W,rfl,h⟩:=y4k F.sq (c:=c) (r:=r) (R:=R) (by omega) (by omega) (fun x hx=>ltR x (hs x hx)) ltR
  exact ⟨W,e,h⟩
 have C0 : Cyc T c []:=⟨by simp,trivial,fun h=>absurd rfl h⟩
 have hs0 : ∀ x∈[c],x∈R:=fun x hx=>by rw [ai.mp hx]; exact hcR
 obtain ⟨W0,e0,h0⟩:=wd C0 hs0
 simp! only [z6f,mn,t1,e0]
 refine z5l (I:=fun s=>∃ (r : List Nat) (o3 : Option SD),s=[some (.sh (z0r T)),some (.sh (thD R)),some (.sh (thD (c :: r))),o3]∧Cyc T c r∧∀ x,x∈c :: r↔x∈R) ?_ ?_
 ·refine z5s (fun n s=>∃ (r W : List Nat),s=[some (.sh (z0r T)),some (.sh (thD R)),some (.sh (thD (c :: r))),some (.sh (thD W))]∧Cyc T c r∧(∀ x∈c :: r,x∈R)∧Wid T R c r W∧R.length≤n + (c :: r).length) (n:=R.length) ⟨[],W0,rfl,C0,hs0,h0,by omega⟩ ?_ (by omega)
  rintro n s ⟨r,W,rfl,C,hs,hw,hn⟩
  refine ⟨decide (((c :: r).length : Int) < (W.length : Int)),?_,fun hk=>?_,fun hk=>?_⟩
  ·have d1 : decide ((W.length : Int) > ((c :: r).length : Int))=decide (((c :: r).length : Int) < (W.length : Int)):=rfl
   obtain ⟨Q,hQ⟩ : ∃ Q,Q=c :: r:=⟨_,rfl⟩
   rw [← hQ] at d1 ⊢
   simp! only [z6m,d1]
  ·have hk:=of_decide_eq_false hk
   refine .inl ⟨_,rfl,r,_,rfl,C,fun x=>⟨fun hx=>hs x hx,?_⟩⟩
   exact Cyc.full F ltR hS hs (L:=z7D (c :: r) R) (fun x=>left_mem) (hw.stay (by omega)) x
  ·have hk:=of_decide_eq_true hk
   obtain ⟨r',rfl,C',hs'⟩:=hw.go F.own ltR C hs (by omega)
   have hl' : (c :: r').length≤R.length:=List.Nodup.length_le_of_subset C'.nd hs'
   obtain ⟨W',e',h'⟩:=wd C' hs'
   refine ⟨n - 1,by omega,?_⟩
   have fin : ∃ (r W : List Nat),[some (.sh (z0r T)),some (.sh (thD R)),some (.sh (thD (c :: r'))),some (.sh (thD W'))]=[some (SD.sh (z0r T)),some (.sh (thD R)),some (.sh (thD (c :: r))),some (.sh (thD W))]∧Cyc T c r∧(∀ x∈c :: r,x∈R)∧Wid T R c r W∧R.length≤n - 1 + (c :: r).length:=⟨r',W',rfl,C',hs',h',by omega⟩
   obtain ⟨Q,hQ⟩ : ∃ Q,Q=c :: r:=⟨_,rfl⟩
   rw [← hQ]
   obtain ⟨Q',hQ'⟩ : ∃ Q,Q=c :: r':=⟨_,rfl⟩
   rw [← hQ'] at e' fin ⊢
   simp! only [e',z0d]
   exact fin
 ·rintro s ⟨r,o3,rfl,C,hm⟩
  have fin : ∃ r',thD (c :: r)=thD (c :: r')∧Cyc T c r'∧∀ x,x∈c :: r'↔x∈R:=⟨r,rfl,C,hm⟩
  obtain ⟨Q,hQ⟩ : ∃ Q,Q=c :: r:=⟨_,rfl⟩
  rw [← hQ] at fin ⊢
  simp! only [z0d]
  exact ⟨_,rfl,fin⟩
theorem lix_th {o : List Nat} {x : Nat} (h : x∈o) : lixF (thD o) (.int (x : Int))=some (.int ((o.findIdx fun n=>n == x : Nat) : Int)):=by
 show ((z4p (o.map nD)).bind fun ns=>(ns.findIdx? (fun n=>n == (x : Int))).map fun j=>D.int (j : Int))=_
 rw [nD_ints,y2r,am,List.findIdx?_map]
 have e : ((fun n : Int=>n == (x : Int)) ∘ fun n : Nat=>((n : Nat) : Int))=fun n=>n == x:=by
  funext n
  show ((n : Int) == (x : Int))=(n == x)
  by_cases hz : n=x
  ·subst hz; simp
  ·have h1 : ((n : Int) == (x : Int))=false:=by rw [beq_eq_false_iff_ne]; omega
   have h2 : (n == x)=false:=by rw [beq_eq_false_iff_ne]; exact hz
   rw [h1,h2]
 rw [e,List.findIdx?_eq_guard_findIdx_lt]
 have hl : o.findIdx (fun n=>n == x) < o.length:=List.findIdx_lt_length_of_exists ⟨x,h,by simp⟩
 simp [Option.guard,hl]
theorem y7t {a : Nat} : ∀ {pre post : List Nat},a ∉ pre->(pre ++ a :: post).findIdx (fun n=>n == a)=pre.length
 | [],post,_=>by simp [List.findIdx_cons]
 | x :: pre,post,h=>by
  have hx : (x == a)=false:=by rw [beq_eq_false_iff_ne]; exact fun z=>h (z ▸ ac)
  have ih:=y7t (a:=a) (pre:=pre) (post:=post) fun z=>h (af _ z)
  rw [cI,List.findIdx_cons,hx,ih]
  rfl
theorem y8P {T : List (List Bool)} {c : Nat} {r : List Nat} (C : Cyc T c r) {a : Nat} (ha : a∈c :: r) (hl : (c :: r).length≤1000) : ∃ q,z2y [thD (c :: r),.int (a : Int)]=some (thD (a :: q))∧wk T a q∧(a :: q).Perm (c :: r):=by
 obtain ⟨pre,post,e⟩:=cA ha
 have nd:=C.nd
 rw [e,aW] at nd
 have hn : a ∉ pre:=fun z=>nd.2.2 a z a ac rfl
 have lx:=lix_th ha
 rw [e,y7t hn] at lx
 refine ⟨post ++ pre,?_,?_,?_⟩
 ·refine z0H rfl ?_
  rw [e] at hl ⊢
  have c1:=y4V (o:=pre ++ a :: post) (k:=pre.length)
  have c2:=z6L (ds:=(pre ++ a :: post).map nD) (k:=pre.length) (by simp)
  have c2 : y7K (some (thD (pre ++ a :: post))) (some none) (some (some (pre.length : Int)))=some (pre.map nD):=by
   show some (z8O ((pre ++ a :: post).map nD) none (some (pre.length : Int)))=_
   rw [c2,← cW]
   simp
  have t1 : (pre ++ a :: post).drop pre.length=a :: post:=by simp
  rw [t1] at c1
  have ct:=z6j (a:=a :: post) (b:=pre) (by simp at hl ⊢; omega)
  obtain ⟨Q,hQ⟩ : ∃ Q,Q=pre ++ a :: post:=⟨_,rfl⟩
  rw [← hQ] at lx c1 c2 ⊢
  have ex : a :: (post ++ pre)=a :: post ++ pre:=rfl
  rw [ex]
  obtain ⟨Q2,hQ2⟩ : ∃ Q,Q=a :: post ++ pre:=⟨_,rfl⟩
  rw [← hQ2] at ct ⊢
  obtain ⟨Q1,hQ1⟩ : ∃ Q,Q=a :: post:=⟨_,rfl⟩
  rw [← hQ1] at c1 ct
  have tl : ∀ W : List Nat,D.lst (W.map nD)=thD W:=fun _=>rfl
  simp! only [z3Y,lx,c1,c2,tl,ct,z2U,z0d]
 ·cases pre with
  | nil=>
   cases e
   rw [aG]
   exact C.wk
  | cons y p=>
   have e1 : c=y:=(List.cons.inj e).1
   have e2 : r=p ++ a :: post:=(List.cons.inj e).2
   subst e1
   have w:=C.wk
   have cl:=C.cl (by rw [e2]; simp)
   rw [e2] at w cl
   rw [z4S] at cl
   obtain ⟨w1,w2⟩:=wk_app.mp w
   rw [wk_app]
   exact ⟨w2.2,cl,w1⟩
 ·rw [e]
  have : (a :: (post ++ pre))=(a :: post) ++ pre:=rfl
  rw [this]
  exact bK
theorem y8n {np nl : Nat} {b : SS->Option Out} {ds : List D} {Q : XO->Prop} (hl : ds.length=np) (h : hol (b (ds.map (fun d=>some (.sh d)) ++ ae nl none)) fun o=>∃ d,o = .rt d∧Q (.val d)) : hol (z7t np nl b ds) Q:=by
 obtain ⟨o,e,d,rfl,q⟩:=h
 refine ⟨.val d,?_,q⟩
 unfold z7t
 rw [if_pos hl,e]
theorem cls_up {m : Nat} {f : Nat->Nat} {a : Nat} : (cls m f a).Pairwise (· < ·):=List.Pairwise.filter _ bU
theorem y2T {m : Nat} {f : Nat->Nat} {a x : Nat} (h : x∈cls m f a) : x < m:=au.mp (ak.mp h).1
theorem y1V {m : Nat} {f : Nat->Nat} {a : Nat} (h : a < m) : a∈cls m f a:=ak.mpr ⟨au.mpr h,decide_eq_true rfl⟩
theorem Rgs.perm {m : Nat} {f : Nat->Nat} {L : List (List Nat)} (h : Rgs m f L) : L.flatten.Perm (ah m):=by
 refine (bN ?_ bZ).mpr fun x=>?_
 ·unfold List.Nodup
  rw [List.pairwise_flatten]
  refine ⟨fun r hr=>?_,h.pw.imp fun {r s} q=>?_⟩
  ·obtain ⟨a,_,rfl⟩:=(h.mem r).mp hr
   exact cls_up.imp fun h=>aF h
  ·intro x hx y hy e
   subst e
   have:=q.2.2 x hx x hy
   omega
 ·rw [b7,au]
  constructor
  ·rintro ⟨r,hr,hx⟩
   obtain ⟨a,_,rfl⟩:=(h.mem r).mp hr
   exact y2T hx
  ·intro hx
   exact ⟨cls m f x,(h.mem _).mpr ⟨x,hx,rfl⟩,y1V hx⟩
theorem Rgs.cons {m : Nat} {f : Nat->Nat} {L : List (List Nat)} (h : Rgs m f L) (h0 : 0 < m) : ∃ r0 rest,L=r0 :: rest:=by
 have : cls m f 0∈L:=(h.mem _).mpr ⟨0,h0,rfl⟩
 cases L with
 | nil=>cases this
 | cons r s=>exact ⟨r,s,rfl⟩
theorem y9Y {m : Nat} {T : List (List Bool)} (F : Full m T) (hm : m≤60) {r0 : List Nat} {rest : List (List Nat)} (hr : rgL T m=r0 :: rest) {a : Nat} (ha : a∈r0) : ∃ q,z1T [z0r T,.int (a : Int)]=some (.val (thD (a :: q)))∧wk T a q∧(a :: q).Perm (ah m):=by
 have G:=z8k (T:=T) (m:=m)
 rw [hr] at G
 have ro : ∀ s∈r0 :: rest,∃ c r',hol (z2f [z0r T,thD s]) (fun d=>d=thD (c :: r'))∧Cyc T c r'∧(c :: r').Perm s:=fun s hs=>by
  obtain ⟨b,hb,rfl⟩:=(G.mem s).mp hs
  have up:=cls_up (m:=m) (f:=fun a=>(rcL T m a).length) (a:=b)
  have lt : ∀ x∈cls m (fun a=>(rcL T m a).length) b,x < m:=fun x hx=>y2T hx
  have st:=y8z F (a:=b)
  have hne:=y1V (f:=fun a=>(rcL T m a).length) hb
  obtain ⟨R,hR⟩ : ∃ R,R=cls m (fun a=>(rcL T m a).length) b:=⟨_,rfl⟩
  rw [← hR] at up lt st hne ⊢
  cases R with
  | nil=>cases hne
  | cons c R'=>
   obtain ⟨_,e,r',rfl,C,hm⟩:=y9u F hm up lt st
   refine ⟨c,r',⟨_,e,rfl⟩,C,(bN C.nd (up.imp fun h=>aF h)).mpr hm⟩
 suffices h : hol (z1T [z0r T,.int (a : Int)]) fun x=>∃ q,x = .val (thD (a :: q))∧wk T a q∧(a :: q).Perm (ah m) by
  obtain ⟨_,e,q,rfl,h⟩:=h
  exact ⟨q,e,h⟩
 refine y8n rfl ?_
 have re:=y2E F.sq hm
 rw [hr] at re
 have ltall : ∀ s∈r0 :: rest,s.length≤m:=fun s hs=>by
  obtain ⟨b,hb,rfl⟩:=(G.mem s).mp hs
  have:=bg (fun c=>decide ((rcL T m c).length=(rcL T m b).length)) (ah m)
  rw [bE] at this
  exact this
 obtain ⟨c0,s0,⟨_,er0,rfl⟩,C0,p0⟩:=ro r0 ac
 have hl0 : (c0 :: s0).length≤1000:=by
  have:=p0.length_eq
  have:=ltall r0 ac
  omega
 obtain ⟨q0,eb,w0,pq0⟩:=y8P C0 (p0.mem_iff.mpr ha) hl0
 have ix : ixD (.lst ((r0 :: rest).map thD)) (.int 0)=some (thD r0):=z1q (j:=0) rfl
 have cu : y7K (some (.lst ((r0 :: rest).map thD))) (some (some 1)) (some none)=some (rest.map thD):=by
  show some (z8O ((r0 :: rest).map thD) (some ((1 : Nat) : Int)) none)=_
  rw [z9l]
  rfl
 have sr : y7k (.lst (rest.map thD))=some (rest.map thD):=rfl
 have hc : (!r0.contains a)=false:=by rw [aC.mpr ha]; rfl
 have tot:=G.perm
 have flen : (r0 ++ rest.flatten).length=m:=by
  have:=tot.length_eq
  rw [bE] at this
  exact this
 obtain ⟨Lr,hLr⟩ : ∃ Lr,Lr=D.lst ((r0 :: rest).map thD):=⟨_,rfl⟩
 rw [← hLr] at re ix cu
 have fin0 : ∃ q,thD (a :: q0)=thD (a :: q)∧wk T a q∧(a :: q).Perm (r0 ++ ([] : List (List Nat)).flatten):=⟨q0,rfl,w0,by simpa using pq0.trans p0⟩
 obtain ⟨Z0,hZ0⟩ : ∃ Z,Z=c0 :: s0:=⟨_,rfl⟩
 rw [← hZ0] at er0 eb
 obtain ⟨Y0,hY0⟩ : ∃ Y,Y=a :: q0:=⟨_,rfl⟩
 rw [← hY0] at eb fin0
 simp! only [z5S,re,ix,z5d,hc,er0,eb,cu,sr]
 refine z0E (I:=fun s=>∃ (q : List Nat) (o4 : Option SD),s=[some (.sh (z0r T)),some (.sh (.int (a : Int))),some (.sh Lr),some (.ow (thD (a :: q))),o4]∧wk T a q∧(a :: q).Perm (r0 ++ rest.flatten)) ?_ ?_
 ·obtain ⟨qq,eqq,wqq,pqq⟩:=fin0
  rw [eqq]
  refine z1r (enc:=thD) (fun pre s=>∃ (q : List Nat) (o4 : Option SD),s=[some (.sh (z0r T)),some (.sh (.int (a : Int))),some (.sh Lr),some (.ow (thD (a :: q))),o4]∧wk T a q∧(a :: q).Perm (r0 ++ pre.flatten)) ⟨qq,_,rfl,wqq,pqq⟩ ?_ fun s z=>⟨s,rfl,z⟩
  rintro pre s post e st ⟨q,o4,rfl,wq,pq⟩
  have hs : s∈r0 :: rest:=af _ (by rw [e]; simp)
  obtain ⟨c,r',⟨_,er,rfl⟩,C,ps⟩:=ro s hs
  have hbt : at2 T (lsN a q) c=true:=by
   have h1 : lsN a q∈r0 ++ pre.flatten:=pq.mem_iff.mp y4S
   have h2 : ∃ t∈r0 :: pre,lsN a q∈t:=by
    rcases ay.mp h1 with z | z
    ·exact ⟨r0,ac,z⟩
    ·obtain ⟨t,ht,hz⟩:=b7.mp z
     exact ⟨t,af _ ht,hz⟩
   obtain ⟨t,ht,hz⟩:=h2
   have pw:=G.pw
   rw [e] at pw
   have pw : ((r0 :: pre) ++ s :: post).Pairwise (Upp fun a=>(rcL T m a).length):=pw
   have up:=(eJ.mp pw).2.2 t ht s ac
   have hcs : c∈s:=ps.mem_iff.mp ac
   have htL : t∈r0 :: rest:=by
    rw [e]
    rcases aj.mp ht with z | z
    ·rw [z]; exact ac
    ·exact af _ (br _ z)
   obtain ⟨b1,hb1,et⟩:=(G.mem t).mp htL
   obtain ⟨b2,hb2,es⟩:=(G.mem s).mp hs
   exact z9N F (by rw [et] at hz; exact y2T hz) (by rw [es] at hcs; exact y2T hcs) (up.2.2 _ hz c hcs)
  have l1 : (a :: q).length≤m:=by
   rw [pq.length_eq]
   rw [e] at flen
   simp at flen ⊢
   omega
  have l2 : (c :: r').length≤m:=by
   rw [ps.length_eq]
   exact ltall s hs
  have ex:=eo_extD (ds:=(a :: q).map nD) (es:=(c :: r').map nD) (z9r _) (by rw [aq,aq]; omega)
  rw [← aP] at ex
  have ex : extDV (some (thD (a :: q))) (some (thD (c :: r')))=some (thD (a :: q ++ c :: r')):=ex
  have fin : ∃ (q' : List Nat),thD (a :: q ++ c :: r')=thD (a :: q')∧wk T a q'∧(a :: q').Perm (r0 ++ (pre ++ [s]).flatten):=⟨q ++ c :: r',rfl,wk_app.mpr ⟨wq,hbt,C.wk⟩,by
   have:=pq.append ps
   simpa using this⟩
  obtain ⟨Z,hZ⟩ : ∃ Z,Z=a :: q ++ c :: r':=⟨_,rfl⟩
  rw [← hZ] at ex fin
  obtain ⟨Z1,hZ1⟩ : ∃ Z,Z=a :: q:=⟨_,rfl⟩
  rw [← hZ1] at ex ⊢
  obtain ⟨Z2,hZ2⟩ : ∃ Z,Z=c :: r':=⟨_,rfl⟩
  rw [← hZ2] at ex er
  simp! only [er,ex,z0d]
  obtain ⟨q',e1,e2⟩:=fin
  exact ⟨q',_,by rw [e1],e2⟩
 ·rintro s ⟨q,o4,rfl,wq,pq⟩
  have fin : ∃ q',XO.val (thD (a :: q)) = .val (thD (a :: q'))∧wk T a q'∧(a :: q').Perm (ah m):=⟨q,rfl,wq,pq.trans tot⟩
  obtain ⟨Z,hZ⟩ : ∃ Z,Z=a :: q:=⟨_,rfl⟩
  rw [← hZ] at fin ⊢
  simp! only [z0d]
  exact ⟨_,rfl,fin⟩
theorem z4w {m : Nat} {T : List (List Bool)} (F : Full m T) (hm : m≤60) {r0 : List Nat} {rest : List (List Nat)} (hr : rgL T m=r0 :: rest) : z2g [z0r T]=some (thD r0):=by
 refine z0H rfl ?_
 have re:=y2E F.sq hm
 rw [hr,aM] at re
 have ix : atI (thD r0 :: rest.map thD) 0=some (thD r0):=z1q (j:=0) rfl
 simp! only [z5R,re,ix,z0d]
theorem y9s {m : Nat} {T : List (List Bool)} (F : Full m T) (hm : m≤60) {r0 : List Nat} {rest : List (List Nat)} (hr : rgL T m=r0 :: rest) {a : Nat} (ha : a∈r0) : ∃ q,z2N [z0r T,.int (a : Int)]=some (.tup [.str "order",thD (a :: q).reverse])∧wk T a q∧(a :: q).Perm (ah m):=by
 obtain ⟨q,e,w,p⟩:=y9Y F hm hr ha
 refine ⟨q,z0H rfl ?_,w,p⟩
 have tr:=z4w F hm hr
 have hc : (!r0.contains a)=false:=by rw [aC.mpr ha]; rfl
 obtain ⟨Q,hQ⟩ : ∃ Q,Q=a :: q:=⟨_,rfl⟩
 rw [← hQ] at e ⊢
 have rv : y8e [thD Q]=some (Q.reverse.map nD):=by
  show y8e [.lst (Q.map nD)]=_
  rw [y0U,dm]
 have tl : ∀ W : List Nat,D.lst (W.map nD)=thD W:=fun _=>rfl
 simp! only [z4C,tr,z5d,hc,e,rv,tl,z0d]
theorem y7J {m : Nat} {T : List (List Bool)} (F : Full m T) (hm : m≤60) {r0 : List Nat} {rest : List (List Nat)} (hr : rgL T m=r0 :: rest) {a : Nat} (ha : a ∉ r0) : z2N [z0r T,.int (a : Int)]=some (.tup [.str "shut",thD r0]):=by
 refine z0H rfl ?_
 have tr:=z4w F hm hr
 have hc : (!r0.contains a)=true:=by
  have : r0.contains a=false:=by rw [← bp,aC]; exact ha
  rw [this]
  rfl
 simp! only [z4C,tr,z5d,hc,z0d]
theorem rest_in {m : Nat} {T : List (List Bool)} (F : Full m T) (hm : m≤60) {r0 : List Nat} {rest : List (List Nat)} (hr : rgL T m=r0 :: rest) {a : Nat} (ha : a∈r0) : ∃ q,z3A [z0r T,.int (a : Int)]=some (.tup [.str "order",thD (a :: q)])∧wk T a q∧(a :: q).Perm (ah m):=by
 obtain ⟨q,e,w,p⟩:=y9Y F hm hr ha
 refine ⟨q,z0H rfl ?_,w,p⟩
 have tr:=z4w F hm hr
 have hc : (!r0.contains a)=false:=by rw [aC.mpr ha]; rfl
 obtain ⟨Q,hQ⟩ : ∃ Q,Q=a :: q:=⟨_,rfl⟩
 rw [← hQ] at e ⊢
 have tl : ∀ W : List Nat,D.lst (W.map nD)=thD W:=fun _=>rfl
 simp! only [z5v,tr,z5d,hc,e,tl,z0d]
theorem y8l {m : Nat} {T : List (List Bool)} (F : Full m T) (hm : m≤60) {r0 : List Nat} {rest : List (List Nat)} (hr : rgL T m=r0 :: rest) {a : Nat} (ha : a ∉ r0) : z3A [z0r T,.int (a : Int)]=some (.tup [.str "shut",thD r0]):=by
 refine z0H rfl ?_
 have tr:=z4w F hm hr
 have hc : (!r0.contains a)=true:=by
  have : r0.contains a=false:=by rw [← bp,aC]; exact ha
  rw [this]
  rfl
 simp! only [z5v,tr,z5d,hc,z0d]
theorem wk_at {T : List (List Bool)} : ∀ {u : List Nat} {a : Nat} {q : List Nat} {x y : Nat} {v : List Nat},wk T a q->a :: q=u ++ x :: y :: v->at2 T x y=true
 | [],a,q,x,y,v,h,e=>by
  cases e
  exact h.1
 | z :: u,a,q,x,y,v,h,e=>by
  have e2 : q=u ++ x :: y :: v:=(List.cons.inj e).2
  cases q with
  | nil=>simp at e2
  | cons b q=>exact wk_at (u:=u) h.2 e2
theorem y6v : ∀ {p : List Nat} {x : Nat},∃ v,(x :: p).reverse=lsN x p :: v
 | [],x=>⟨[],rfl⟩
 | y :: p,x=>by
  obtain ⟨v,hv⟩:=y6v (p:=p) (x:=y)
  exact ⟨v ++ [x],by rw [bS,hv]; rfl⟩
theorem wk_back {T : List (List Bool)} {a : Nat} {q : List Nat} (h : wk T a q) {x0 : Nat} {o pre post : List Nat} {x : Nat} (e : (a :: q).reverse=x0 :: o) (eo : o=pre ++ x :: post) : at2 T x (lsN x0 pre)=true:=by
 obtain ⟨v,hv⟩:=y6v (p:=pre) (x:=x0)
 have e1 : a :: q=(x0 :: o).reverse:=by rw [← e,cf]
 have e2 : a :: q=post.reverse ++ x :: lsN x0 pre :: v:=by
  rw [e1,eo,← hv]
  simp
 exact wk_at h e2
theorem y9v {a : Nat} {q : List Nat} {x0 : Nat} {o : List Nat} (e : (a :: q).reverse=x0 :: o) : lsN x0 o=a:=by
 obtain ⟨v,hv⟩:=y6v (p:=o) (x:=x0)
 rw [← e,cf] at hv
 exact (List.cons.inj hv).1.symm
def chB (T : List (List Bool)) : List Nat->Bool
 | []=>true
 | a :: r=>(r.all fun j=>at2 T a j) && chB T r
def z5u (T : List (List Bool)) (th : List Nat) : Bool:=!th.isEmpty && chB T th
theorem y6I {T : List (List Bool)} : ∀ {th : List Nat} {k : Nat} {pre : List Nat},pre.length=k->((th.zipIdx k).all fun z=>((pre ++ th).drop (z.2 + 1)).all fun j=>at2 T z.1 j)=chB T th
 | [],_,_,_=>rfl
 | a :: r,k,pre,h=>by
  have ih:=y6I (T:=T) (th:=r) (k:=k + 1) (pre:=pre ++ [a]) (by simp [h])
  have e : pre ++ [a] ++ r=pre ++ a :: r:=by simp
  rw [e] at ih
  rw [di,List.all_cons,ih]
  show ((((pre ++ a :: r).drop (k + 1)).all fun j=>at2 T a j) && _)=_
  have e2 : (pre ++ a :: r).drop (k + 1)=r:=by rw [← h]; simp
  rw [e2]
  rfl
theorem y4h {m : Nat} {T : List (List Bool)} (sq : Sq m T) {th : List Nat} (hl : th.length≤1000) (h : ∀ x∈th,x < m) : z3p [z0r T,thD th]=some (.bl (z5u T th)):=by
 refine z0H rfl ?_
 by_cases h0 : th=[]
 ·subst h0
  have d0 : decide ((([] : List Nat).length : Int)=0)=true:=rfl
  simp! only [z4r,z6m,d0,z0d]
  rfl
 ·have d0 : decide ((th.length : Int)=0)=false:=decide_eq_false fun e=>h0 (bR.mp (by omega))
  simp! only [z4r,z6m,d0,y5N]
  rw [cx2_all (fun k a=>bD ((th.drop (k + 1)).all fun j=>at2 T a j)) hl fun i hi=>by
   have c:=z4R sq (h th[i] (b9 hi)) (th:=th.drop (i + 1)) (by simp; omega) fun x hx=>h x (List.mem_of_mem_drop hx)
   have tl : ∀ o : List Nat,D.lst (o.map nD)=thD o:=fun _=>rfl
   have c : z0Q [z0r T,nD th[i],thD (th.drop (i + 1))]=_:=c
   simp! only [z9c,tl,c]
   rfl]
  have e : (th.zipIdx.map fun z=>bD ((th.drop (z.2 + 1)).all fun j=>at2 T z.1 j))=(th.zipIdx.map fun z=>(th.drop (z.2 + 1)).all fun j=>at2 T z.1 j).map bD:=by rw [bq]; rfl
  have e2 : ((th.zipIdx.map fun z=>(th.drop (z.2 + 1)).all fun j=>at2 T z.1 j).all fun b=>b)=z5u T th:=by
   unfold z5u
   rw [List.all_map,← y6I (T:=T) (th:=th) (k:=0) (pre:=[]) rfl]
   have : (!th.isEmpty)=true:=by simp [h0]
   rw [this]
   rfl
  simp! only [e,y9D,e2,z0d]
def btL (T : List (List Bool)) (m : Nat) (th : List Nat) : List Nat:=(ah m).filter fun a=>th.all fun j=>at2 T a j
theorem z8e {m : Nat} {T : List (List Bool)} (sq : Sq m T) (hm : m≤1000) {th : List Nat} (hl : th.length≤1000) (h : ∀ x∈th,x < m) : z2w [z0r T,thD th]=some (thD (btL T m th)):=by
 refine z0H rfl ?_
 simp! only [z7o,z3W,sq.1,z1t (show m≤1000000 by omega),z4m]
 rw [y1D (fun a=>th.all fun j=>at2 T a j) nD (by simp; omega) (fun a ha=>by
  have c:=z4R sq (au.mp ha) hl h
  simp! only [nD,c]) fun x hx _=>by simp! only []]
 simp! only [z2U,z0d]
 rfl
theorem y5Z {m : Nat} {T : List (List Bool)} (sq : Sq m T) (hm : m≤1000) {th : List Nat} (hl : th.length≤1000) (h : ∀ x∈th,x < m) : z4A [z0r T,thD th]=some (.bl (z5u T th && decide (((btL T m th).length : Int)=0))):=by
 refine z0H rfl ?_
 simp! only [z8M,y4h sq hl h,z8e sq hm hl h,z6m,z0d]
def z5K (T : List (List Bool)) : Nat->List Nat->List Nat->List (List Nat)
 | 0,_,_=>[]
 | _ + 1,c,[]=>[c]
 | n + 1,c,x :: f=>((x :: f).map fun y=>z5K T n (c ++ [y]) ((x :: f).filter fun z=>at2 T y z)).flatten
def fac : Nat->Nat
 | 0=>1
 | n + 1=>(n + 1) * fac n
theorem y8N (n : Nat) : fac n≤fac (n + 1):=by
 show fac n≤(n + 1) * fac n
 exact Nat.le_mul_of_pos_left _ (by omega)
theorem z6A {a b : Nat} (h : a≤b) : fac a≤fac b:=by
 induction h with
 | refl=>exact ar _
 | step _ ih=>exact aJ ih (y8N _)
theorem y0W {α : Type} {B : Nat} : ∀ {L : List (List α)},(∀ l∈L,l.length≤B)->L.flatten.length≤L.length * B
 | [],_=>bu _
 | l :: L,h=>by
  have ih:=y0W (L:=L) fun x hx=>h x (af _ hx)
  have h1:=h l ac
  rw [bw,aH,bb,eh]
  omega
theorem z9a {T : List (List Bool)} {f : List Nat} {y : Nat} (hy : y∈f) (own : at2 T y y=false) : (f.filter fun z=>at2 T y z).length < f.length:=by
 rw [List.length_filter_lt_length_iff_exists]
 exact ⟨y,hy,by rw [own]; exact ax⟩
theorem z6v {T : List (List Bool)} : ∀ {n : Nat} {c f : List Nat},(∀ x∈f,at2 T x x=false)->(z5K T n c f).length≤fac f.length
 | 0,_,f,_=>bu _
 | _ + 1,c,[],_=>ar _
 | n + 1,c,x :: f,own=>by
  have : ∀ l∈(x :: f).map fun y=>z5K T n (c ++ [y]) ((x :: f).filter fun z=>at2 T y z),l.length≤fac f.length:=fun l hl=>by
   obtain ⟨y,hy,rfl⟩:=aZ.mp hl
   refine aJ (z6v fun z hz=>own z (ak.mp hz).1) (z6A ?_)
   have:=z9a hy (own y hy)
   rw [bb] at this
   omega
  have:=y0W this
  rw [aq] at this
  exact this
theorem y2V {m : Nat} {T : List (List Bool)} (sq : Sq m T) (own : ∀ i < m,at2 T i i=false) (hm : m≤8) : ∀ {n : Nat} {c f : List Nat},f.length < n->f.length≤8->c.length + f.length≤100->(∀ x∈f,x < m)->z1o n [z0r T,thD c,thD f]=some (.lst ((z5K T n c f).map thD))
 | 0,c,f,h,_,_,_=>absurd h (by omega)
 | n + 1,c,[],h,h8,hc,hf=>by
  refine y2N rfl ?_
  have tr : z5r (thD [])=some false:=rfl
  simp_all! only [z2o,tr,z0d]
  rfl
 | n + 1,c,x :: f,h,h8,hc,hf=>by
  refine y2N rfl ?_
  obtain ⟨F,hF⟩ : ∃ F,F=x :: f:=⟨_,rfl⟩
  have tr : z5r (thD F)=some true:=by rw [hF]; rfl
  have e0 : z5K T (n + 1) c (x :: f)=(F.map fun y=>z5K T n (c ++ [y]) (F.filter fun z=>at2 T y z)).flatten:=by rw [hF]; rfl
  rw [e0]
  rw [← hF] at h h8 hc hf ⊢
  have nl : D.lst [] = .lst (([] : List (List Nat)).map thD):=rfl
  have ownF : ∀ x∈F,at2 T x x=false:=fun x hx=>own x (hf x hx)
  simp_all! only [z2o,tr,z3R,z3d]
  rw [nl]
  refine z0E (I:=fun s=>∃ o1 o4,s=[some (.sh (z0r T)),o1,some (.sh (thD F)),some (.ow (.lst ((F.map fun y=>z5K T n (c ++ [y]) (F.filter fun z=>at2 T y z)).flatten.map thD))),o4]) ?_ ?_
  ·refine z1r (enc:=nD) (fun pre s=>∃ o4,s=[some (.sh (z0r T)),some (.ow (thD c)),some (.sh (thD F)),some (.ow (.lst ((pre.map fun y=>z5K T n (c ++ [y]) (F.filter fun z=>at2 T y z)).flatten.map thD))),o4]) ⟨_,rfl⟩ ?_ fun s ⟨o4,e⟩=>⟨s,rfl,_,_,e⟩
   rintro pre y post e s ⟨o4,rfl⟩
   have hy : y∈F:=by rw [e]; simp
   have t1 : D.lst [.int (y : Int)]=thD [y]:=rfl
   have ct:=z6j (a:=c) (b:=[y]) (by simp; omega)
   have cx : z2a (some (F.map nD)) (z3a (z0I (d2 ixD (d2 ixD (z0c 0) (z0c 4)) (z0c 5))) (z0c 5) [some (z0r T),some (thD c),some (thD F),some (.lst ((pre.map fun y=>z5K T n (c ++ [y]) (F.filter fun z=>at2 T y z)).flatten.map thD)),some (.int (y : Int))])=some ((F.filter fun z=>at2 T y z).map nD):=
    y1D (fun z=>at2 T y z) nD (by omega) (fun z hz=>by
     simp! only [nD,ix2 sq (hf y hy) (hf z hz)]) fun z _ _=>by simp! only []
   have fl:=z9a hy (ownF y hy)
   have ih:=y2V sq own hm (n:=n) (c:=c ++ [y]) (f:=F.filter fun z=>at2 T y z) (by omega) (by omega) (by simp; omega) fun z hz=>hf z (ak.mp hz).1
   have l1 : (pre.map fun y=>z5K T n (c ++ [y]) (F.filter fun z=>at2 T y z)).flatten.length≤40320 * 8:=by
    refine aJ (y0W (B:=40320) fun l hl=>?_) ?_
    ·obtain ⟨z,hz,rfl⟩:=aZ.mp hl
     refine aJ (z6v fun q hq=>ownF q (ak.mp hq).1) ?_
     exact aJ (z6A (show _≤8 from aJ (bg _ _) h8)) (by decide)
    ·rw [aq]
     have : pre.length≤8:=by
      have:=congrArg List.length e
      simp at this
      omega
     exact aJ (Nat.mul_le_mul_right _ this) (by decide)
   have l2 : (z5K T n (c ++ [y]) (F.filter fun z=>at2 T y z)).length≤40320:=by
    refine aJ (z6v fun q hq=>ownF q (ak.mp hq).1) ?_
    exact aJ (z6A (show _≤8 from aJ (bg _ _) h8)) (by decide)
   obtain ⟨Y,hY⟩ : ∃ Y,Y=z5K T n (c ++ [y]) (F.filter fun z=>at2 T y z):=⟨_,rfl⟩
   obtain ⟨Z,hZ⟩ : ∃ Z,Z=(pre.map fun y=>z5K T n (c ++ [y]) (F.filter fun z=>at2 T y z)).flatten:=⟨_,rfl⟩
   obtain ⟨cy,hcy⟩ : ∃ cy,cy=c ++ [y]:=⟨_,rfl⟩
   rw [← hcy] at ih ct
   rw [← hcy] at hY
   rw [← hcy] at l2
   rw [← hY] at ih l2
   rw [← hZ] at l1 cx ⊢
   have ex : extV (some (.lst (Z.map thD))) (some (.lst (Y.map thD)))=some (.lst ((Z ++ Y).map thD)):=by
    rw [eo_ext (by simp; omega),aP]
   have tl : ∀ W : List Nat,D.lst (W.map nD)=thD W:=fun _=>rfl
   simp! only [nD,t1,ct,z2U,tl,z3d,cx,ih,ex,z0d]
   have key : ((pre ++ [y]).map fun y=>z5K T n (c ++ [y]) (F.filter fun z=>at2 T y z)).flatten=Z ++ Y:=by
    rw [aP,List.flatten_append,← hZ]
    congr 1
    show z5K T n (c ++ [y]) (F.filter fun z=>at2 T y z) ++ []=Y
    rw [aG,hY,hcy]
   rw [key]
   exact ⟨_,rfl⟩
  ·rintro s ⟨o1,o4,rfl⟩
   simp! only [z0d]
structure Ant (m : Nat) (T : List (List Bool)) : Prop where
 sq : Sq m T
 own : ∀ i < m,at2 T i i=false
 ant : ∀ i < m,∀ j < m,at2 T i j=true->at2 T j i=false
theorem z5A {T : List (List Bool)} {a : Nat} {r : List Nat} : chB T (a :: r)=(r.all (fun j=>at2 T a j) && chB T r):=rfl
theorem z8x {T : List (List Bool)} : ∀ {a b : List Nat},chB T (a ++ b)=(chB T a && chB T b && a.all fun x=>b.all fun y=>at2 T x y)
 | [],b=>by simp [chB]
 | x :: a,b=>by
  have ih:=z8x (T:=T) (a:=a) (b:=b)
  rw [cI,z5A,z5A,List.all_append,ih,List.all_cons]
  cases a.all (fun j=>at2 T x j) <;> cases b.all (fun j=>at2 T x j) <;> cases chB T a <;> cases chB T b <;> simp
theorem chB_iff {T : List (List Bool)} {th : List Nat} : chB T th=true↔th.Pairwise fun x y=>at2 T x y=true:=by
 induction th with
 | nil=>simp [chB]
 | cons a r ih=>rw [z5A,aK,ih,aQ,aT]
theorem z8L {T : List (List Bool)} : ∀ {n : Nat} {c f e : List Nat},e∈z5K T n c f->∃ q,e=c ++ q∧∀ x∈q,x∈f
 | 0,_,_,_,h=>nomatch h
 | _ + 1,c,[],e,h=>by
  have : e=c:=by simpa [z5K] using h
  exact ⟨[],by simp [this],fun _ z=>nomatch z⟩
 | n + 1,c,x :: f,e,h=>by
  obtain ⟨l,hl,he⟩:=b7.mp (show e∈((x :: f).map fun y=>z5K T n (c ++ [y]) ((x :: f).filter fun z=>at2 T y z)).flatten from h)
  obtain ⟨y,hy,rfl⟩:=aZ.mp hl
  obtain ⟨q,rfl,hq⟩:=z8L he
  refine ⟨y :: q,by simp,fun z hz=>?_⟩
  rcases aj.mp hz with w | w
  ·rw [w]; exact hy
  ·exact (ak.mp (hq z w)).1
theorem y2n {T : List (List Bool)} : ∀ {n : Nat} {c f r : List Nat},f.length < n->(∀ x∈f,at2 T x x=false)->chB T (c ++ r)=true->(∀ x∈r,x∈f)->(∀ y∈f,∀ x∈c,at2 T x y=true)->∃ e∈z5K T n c f,(∀ x∈c ++ r,x∈e)∧chB T e=true
 | 0,_,_,_,h,_,_,_,_=>absurd h (by omega)
 | n + 1,c,[],r,_,_,hc,hr,_=>by
  have : r=[]:=by
   cases r with
   | nil=>rfl
   | cons x r=>exact absurd (hr x ac) (by simp)
  subst this
  rw [aG] at hc ⊢
  exact ⟨c,by simp [z5K],fun x hx=>hx,hc⟩
 | n + 1,c,x :: f,r,hn,own,hc,hr,hb=>by
  have go : ∀ (y : Nat) (r' : List Nat),y∈x :: f->chB T ((c ++ [y]) ++ r')=true->(∀ z∈r',z∈x :: f)->∃ e∈z5K T (n + 1) c (x :: f),(∀ z∈(c ++ [y]) ++ r',z∈e)∧chB T e=true:=fun y r' hy hc' hr'=>by
   have fl:=z9a hy (own y hy)
   have hyr : ∀ z∈r',at2 T y z=true:=fun z hz=>by
    rw [aL,z8x] at hc'
    have:=(az.mp (az.mp hc').1).2
    rw [List.singleton_append,z5A] at this
    exact aT.mp (az.mp this).1 z hz
   obtain ⟨e,he,h1,h2⟩:=y2n (n:=n) (c:=c ++ [y]) (f:=(x :: f).filter fun z=>at2 T y z) (r:=r') (by omega) (fun z hz=>own z (ak.mp hz).1) hc' (fun z hz=>ak.mpr ⟨hr' z hz,hyr z hz⟩) (fun z hz w hw=>by
    rcases ay.mp hw with q | q
    ·exact hb z (ak.mp hz).1 w q
    ·rw [ai.mp q]
     have:=(ak.mp hz).2
     simpa using this)
   exact ⟨e,b7.mpr ⟨_,aZ.mpr ⟨y,hy,rfl⟩,he⟩,h1,h2⟩
  cases r with
  | nil=>
   rw [aG] at hc
   obtain ⟨e,he,h1,h2⟩:=go x [] ac (by
    rw [aG,z8x,hc]
    rw [aK,aT]
    refine ⟨by simp [chB],fun z hz=>?_⟩
    simp [hb x ac z hz]) (fun z hz=>nomatch hz)
   exact ⟨e,he,fun z hz=>h1 z (by simp at hz ⊢; exact .inl hz),h2⟩
  | cons y r=>
   obtain ⟨e,he,h1,h2⟩:=go y r (hr y ac) (by rw [aL]; exact hc) fun z hz=>hr z (af _ hz)
   exact ⟨e,he,fun z hz=>h1 z (by rw [aL]; exact hz),h2⟩
def insC (T : List (List Bool)) (o : Nat) (c : List Nat) : List Nat:=(c.filter fun x=>at2 T x o) ++ [o] ++ c.filter fun x=>at2 T o x
def z9S (T : List (List Bool)) (a o : Nat) (found : List (List Nat)) : List (List Nat):=if at2 T a o=true then found ++ (found.map (insC T o)).filter (z5u T) else found
def hdL (T : List (List Bool)) (a : Nat) : Nat->List (List Nat)
 | 0=>[[a]]
 | k + 1=>z9S T a k (hdL T a k)
theorem hd_ok {m : Nat} {T : List (List Bool)} {a : Nat} (ha : a < m) (own : at2 T a a=false) : ∀ {k : Nat},k≤m->∀ c∈hdL T a k,chB T c=true∧(∃ r,c=a :: r)∧∀ x∈c,x < m
 | 0,_,c,hc=>by
  have : c=[a]:=by simpa [hdL] using hc
  subst this
  exact ⟨by simp [chB],⟨[],rfl⟩,fun x hx=>by rw [ai.mp hx]; exact ha⟩
 | k + 1,hk,c,hc=>by
  have ih:=hd_ok (k:=k) ha own (by omega)
  have hc : c∈z9S T a k (hdL T a k):=hc
  unfold z9S at hc
  split at hc
  ·rename_i hak
   rcases ay.mp hc with z | z
   ·exact ih c z
   ·obtain ⟨hz,hch⟩:=ak.mp z
    obtain ⟨c0,h0,rfl⟩:=aZ.mp hz
    obtain ⟨_,⟨r,rfl⟩,hlt⟩:=ih c0 h0
    refine ⟨(az.mp hch).2,?_,fun x hx=>?_⟩
    ·unfold insC
     rw [bA,if_pos hak]
     exact ⟨_,rfl⟩
    ·unfold insC at hx
     rcases ay.mp hx with w | w
     ·rcases ay.mp w with w | w
      ·exact hlt x (ak.mp w).1
      ·rw [ai.mp w]; omega
     ·exact hlt x (ak.mp w).1
  ·exact ih c hc
theorem x0r {m : Nat} {T : List (List Bool)} (A : Ant m T) {a : Nat} {r : List Nat} (hc : chB T (a :: r)=true) (hlt : ∀ x∈a :: r,x < m) : ∀ {k : Nat},k≤m->(a :: r.filter fun x=>decide (x < k))∈hdL T a k
 | 0,_=>by
  have : (r.filter fun x=>decide (x < 0))=[]:=by rw [bj]; simp
  rw [this]
  simp [hdL]
 | k + 1,hk=>by
  have ih:=x0r A hc hlt (k:=k) (by omega)
  have pw:=chB_iff.mp hc
  have nd : (a :: r).Nodup:=pw.imp_of_mem fun {x y} hx hy z=>fun e=>by
   subst e
   rw [A.own x (hlt x hx)] at z
   cases z
  show _∈z9S T a k (hdL T a k)
  unfold z9S
  by_cases hkr : k∈r
  ·have hak : at2 T a k=true:=(aQ.mp pw).1 k hkr
   rw [if_pos hak]
   refine aO _ (ak.mpr ⟨aZ.mpr ⟨_,ih,?_⟩,?_⟩)
   ·obtain ⟨p,q,rfl⟩:=cA hkr
    have pw2:=(aQ.mp pw).2
    obtain ⟨_,pq,pc⟩:=eJ.mp pw2
    have hp : ∀ x∈p,at2 T x k=true:=fun x hx=>pc x hx k ac
    have hq : ∀ x∈q,at2 T k x=true:=fun x hx=>(aQ.mp pq).1 x hx
    have km : k < m:=by omega
    have hp' : ∀ x∈p,at2 T k x=false:=fun x hx=>A.ant x (hlt x (by simp [hx])) k km (hp x hx)
    have hq' : ∀ x∈q,at2 T x k=false:=fun x hx=>A.ant k km x (hlt x (by simp [hx])) (hq x hx)
    have hka : at2 T k a=false:=A.ant a (hlt a ac) k km hak
    have nd2:=(aE.mp nd).2
    have nk : k ∉ p∧k ∉ q:=by
     obtain ⟨_,n2,n3⟩:=aW.mp nd2
     exact ⟨fun z=>n3 k z k ac rfl,(aE.mp n2).1⟩
    have f1 : ∀ l : List Nat,k ∉ l->(l.filter fun x=>decide (x < k + 1))=l.filter fun x=>decide (x < k):=fun l hl=>cE fun x hx=>by
     have : x≠k:=fun z=>hl (z ▸ hx)
     rw [decide_eq_decide]
     omega
    have e1 : ((p ++ k :: q).filter fun x=>decide (x < k))=(p.filter fun x=>decide (x < k)) ++ q.filter fun x=>decide (x < k):=by
     rw [cz,bA,if_neg (by simp)]
    have e2 : ((p ++ k :: q).filter fun x=>decide (x < k + 1))=(p.filter fun x=>decide (x < k)) ++ k :: q.filter fun x=>decide (x < k):=by
     rw [cz,bA,if_pos (by simp),f1 p nk.1,f1 q nk.2]
    rw [e1,e2]
    unfold insC
    have g1 : ((a :: ((p.filter fun x=>decide (x < k)) ++ q.filter fun x=>decide (x < k))).filter fun x=>at2 T x k)=a :: p.filter fun x=>decide (x < k):=by
     rw [bA,if_pos hak,cz]
     have h1 : ((p.filter fun x=>decide (x < k)).filter fun x=>at2 T x k)=p.filter fun x=>decide (x < k):=bQ.mpr fun x hx=>hp x (ak.mp hx).1
     have h2 : ((q.filter fun x=>decide (x < k)).filter fun x=>at2 T x k)=[]:=bj.mpr fun x hx=>by rw [hq' x (ak.mp hx).1]; exact ax
     rw [h1,h2,aG]
    have g2 : ((a :: ((p.filter fun x=>decide (x < k)) ++ q.filter fun x=>decide (x < k))).filter fun x=>at2 T k x)=q.filter fun x=>decide (x < k):=by
     rw [bA,if_neg (by rw [hka]; exact ax),cz]
     have h1 : ((p.filter fun x=>decide (x < k)).filter fun x=>at2 T k x)=[]:=bj.mpr fun x hx=>by rw [hp' x (ak.mp hx).1]; exact ax
     have h2 : ((q.filter fun x=>decide (x < k)).filter fun x=>at2 T k x)=q.filter fun x=>decide (x < k):=bQ.mpr fun x hx=>hq x (ak.mp hx).1
     rw [h1,h2,cj]
    rw [g1,g2]
    simp
   ·refine az.mpr ⟨rfl,?_⟩
    rw [chB_iff]
    exact pw.sublist (List.Sublist.cons₂ a List.filter_sublist)
  ·have e : (r.filter fun x=>decide (x < k + 1))=r.filter fun x=>decide (x < k):=cE fun x hx=>by
    have : x≠k:=fun z=>hkr (z ▸ hx)
    rw [decide_eq_decide]
    omega
   rw [e]
   split
   ·exact br _ ih
   ·exact ih
theorem x0N {m : Nat} {T : List (List Bool)} (A : Ant m T) {a : Nat} {r : List Nat} (hc : chB T (a :: r)=true) (hlt : ∀ x∈a :: r,x < m) : (a :: r)∈hdL T a m:=by
 have:=x0r A hc hlt (k:=m) (ar _)
 have e : (r.filter fun x=>decide (x < m))=r:=bQ.mpr fun x hx=>decide_eq_true (hlt x (af _ hx))
 rwa [e] at this
def crP (T : List (List Bool)) (m : Nat) (c : List Nat) : Bool:=decide (((btL T m c).length : Int)=0)
def crB (T : List (List Bool)) (m a : Nat) : Bool:=(hdL T a m).any (crP T m)
def btN (T : List (List Bool)) (m a : Nat) : List Nat:=(ah m).filter fun j=>at2 T a j
theorem bt_nil {T : List (List Bool)} {m : Nat} {c : List Nat} : crP T m c=true↔∀ x < m,∃ y∈c,at2 T x y=false:=by
 unfold crP btL
 rw [decide_eq_true_iff]
 constructor
 ·intro h x hx
  have h : ((ah m).filter fun a=>c.all fun j=>at2 T a j)=[]:=bR.mp (by omega)
  have:=bj.mp h x (au.mpr hx)
  rw [aT] at this
  by_cases hq : ∃ y∈c,at2 T x y=false
  ·exact hq
  ·exact absurd (fun y hy=>by
    cases e : at2 T x y with
    | true=>rfl
    | false=>exact absurd ⟨y,hy,e⟩ hq) this
 ·intro h
  have : ((ah m).filter fun a=>c.all fun j=>at2 T a j)=[]:=bj.mpr fun x hx=>by
   obtain ⟨y,hy,e⟩:=h x (au.mp hx)
   intro z
   rw [aT.mp z y hy] at e
   cases e
  rw [this]
  rfl
theorem cr_end {m : Nat} {T : List (List Bool)} (A : Ant m T) {a n : Nat} (ha : a < m) (hn : m < n) : ((z5K T n [a] (btN T m a)).any fun e=>z5u T e && crP T m e)=crB T m a:=by
 have hlt : ∀ x∈btN T m a,x < m:=fun x hx=>au.mp (ak.mp hx).1
 rw [Bool.eq_iff_iff,bO]
 unfold crB
 rw [bO]
 constructor
 ·rintro ⟨e,he,h⟩
  obtain ⟨h1,h2⟩:=az.mp h
  obtain ⟨q,rfl,hq⟩:=z8L he
  refine ⟨[a] ++ q,x0N A (az.mp h1).2 fun x hx=>?_,h2⟩
  rcases aj.mp hx with z | z
  ·rw [z]; exact ha
  ·exact hlt x (hq x z)
 ·rintro ⟨c,hc,h⟩
  obtain ⟨h1,⟨r,rfl⟩,h3⟩:=hd_ok ha (A.own a ha) (ar _) c hc
  have hbt : (btN T m a).length≤m:=aJ (bg _ _) (by simp)
  have h1' : (∀ x∈r,at2 T a x=true):=aT.mp (az.mp (show (r.all (fun j=>at2 T a j) && chB T r)=true from h1)).1
  obtain ⟨e,he,g1,g2⟩:=y2n (T:=T) (n:=n) (c:=[a]) (f:=btN T m a) (r:=r) (by omega) (fun x hx=>A.own x (hlt x hx)) h1 (fun x hx=>ak.mpr ⟨au.mpr (h3 x (af _ hx)),h1' x hx⟩) (fun y hy x hx=>by
   rw [ai.mp hx]
   have:=(ak.mp hy).2
   simpa using this)
  refine ⟨e,he,az.mpr ⟨az.mpr ⟨?_,g2⟩,?_⟩⟩
  ·have:=g1 a (by simp)
   cases e with
   | nil=>cases this
   | cons _ _=>rfl
  ·rw [bt_nil] at h ⊢
   intro x hx
   obtain ⟨y,hy,e'⟩:=h x hx
   exact ⟨y,g1 y hy,e'⟩
theorem y3f {T : List (List Bool)} : ∀ {n : Nat} {c f e : List Nat},e∈z5K T n c f->chB T c=true->(∀ y∈f,∀ x∈c,at2 T x y=true)->chB T e=true
 | 0,_,_,_,h,_,_=>nomatch h
 | _ + 1,c,[],e,h,hc,_=>by
  have : e=c:=by simpa [z5K] using h
  rw [this]; exact hc
 | n + 1,c,x :: f,e,h,hc,hb=>by
  obtain ⟨l,hl,he⟩:=b7.mp (show e∈((x :: f).map fun y=>z5K T n (c ++ [y]) ((x :: f).filter fun z=>at2 T y z)).flatten from h)
  obtain ⟨y,hy,rfl⟩:=aZ.mp hl
  refine y3f he ?_ fun z hz w hw=>?_
  ·rw [z8x,hc]
   rw [aK,aT]
   refine ⟨by simp [chB],fun z hz=>?_⟩
   simp [hb y hy z hz]
  ·rcases ay.mp hw with q | q
   ·exact hb z (ak.mp hz).1 w q
   ·rw [ai.mp q]
    have:=(ak.mp hz).2
    simpa using this
def y0C (T : List (List Bool)) (m a : Nat) : List (List Nat):=z5K T 12 [a] (btN T m a)
structure Ech (m : Nat) (T : List (List Bool)) (a : Nat) (e : List Nat) : Prop where
 ch : z5u T e=true
 lt : ∀ x∈e,x < m
 len : e.length≤m
 hd : ∃ q,e=a :: q
theorem z8A {m : Nat} {T : List (List Bool)} (A : Ant m T) {a : Nat} (ha : a < m) {e : List Nat} (he : e∈y0C T m a) : Ech m T a e:=by
 obtain ⟨q,rfl,hq⟩:=z8L he
 have hlt : ∀ x∈[a] ++ q,x < m:=fun x hx=>by
  rcases aj.mp hx with z | z
  ·rw [z]; exact ha
  ·exact au.mp (ak.mp (hq x z)).1
 have hc : chB T ([a] ++ q)=true:=y3f he (by simp [chB]) fun y hy x hx=>by
  rw [ai.mp hx]
  have:=(ak.mp hy).2
  simpa using this
 have nd : ([a] ++ q).Nodup:=(chB_iff.mp hc).imp_of_mem fun {x y} hx hy z=>fun e=>by
  subst e
  rw [A.own x (hlt x hx)] at z
  cases z
 exact ⟨az.mpr ⟨rfl,hc⟩,hlt,by simpa using List.Nodup.length_le_of_subset nd fun x hx=>au.mpr (hlt x hx),q,rfl⟩
theorem y4Y {T : List (List Bool)} {m a : Nat} : (btN T m a).length≤m:=aJ (bg _ _) (by simp)
theorem y9x {m : Nat} {T : List (List Bool)} (A : Ant m T) (hm : m≤8) {a : Nat} : (y0C T m a).length≤40320:=by
 refine aJ (z6v fun x hx=>A.own x (au.mp (ak.mp hx).1)) ?_
 have:=y4Y (T:=T) (m:=m) (a:=a)
 exact aJ (z6A (show _≤8 by omega)) (by decide)
theorem y6g {m : Nat} {T : List (List Bool)} (A : Ant m T) (hm : m≤8) {a : Nat} (ha : a < m) : z1D [z0r T,thD [a],thD (btN T m a)]=some (.lst ((y0C T m a).map thD)):=by
 have:=y4Y (T:=T) (m:=m) (a:=a)
 exact y2V A.sq A.own hm (n:=12) (by omega) (by omega) (by simp; omega) fun x hx=>au.mp (ak.mp hx).1
def bpD (T : List (List Bool)) (m : Nat) (c : List Nat) : D:=.tup [thD c,nD ((btL T m c).headD 0)]
def x0B (T : List (List Bool)) (m a : Nat) : D:=match (y0C T m a).find? (crP T m) with
 | some c=>.tup [.str "chain",thD c]
 | none=>.tup [.str "beaten",.lst ((y0C T m a).map (bpD T m))]
theorem st_cr {m : Nat} {T : List (List Bool)} (A : Ant m T) (hm : m≤8) {a : Nat} {c : List Nat} (h : Ech m T a c) : z4A [z0r T,thD c]=some (.bl (crP T m c)):=by
 have h1:=h.len
 have:=y5Z A.sq (by omega) (th:=c) (by omega) h.lt
 rw [h.ch,Bool.true_and] at this
 exact this
theorem y0q {α : Type} {p : α->Bool} : ∀ {l pre post : List α} {x : α},l=pre ++ x :: post->(∀ y∈pre,p y=false)->p x=true->l.find? p=some x
 | _,[],post,x,e,_,hx=>by rw [e,cj,bC,hx]
 | _,y :: pre,post,x,e,hp,hx=>by
  rw [e,cI,bC,hp y ac]
  exact y0q rfl (fun z hz=>hp z (af _ hz)) hx
theorem y2f {m : Nat} {T : List (List Bool)} (A : Ant m T) (hm : m≤8) {a : Nat} (ha : a < m) : z1W [z0r T,.int (a : Int)]=some (x0B T m a):=by
 refine z0H rfl ?_
 have e1:=y6g A hm ha
 have e2:=z9M A.sq (by omega) ha
 have e2 : z1n [z0r T,.int (a : Int)]=some (thD (btN T m a)):=e2
 have t1 : D.lst [.int (a : Int)]=thD [a]:=rfl
 have f1 : z5H (some [D.int (a : Int)])=some [D.int (a : Int)]:=rfl
 have l1:=y9x A hm (a:=a)
 have ok : ∀ c∈y0C T m a,Ech m T a c:=fun c hc=>z8A A ha hc
 unfold x0B
 obtain ⟨E,hE⟩ : ∃ E,E=y0C T m a:=⟨_,rfl⟩
 rw [← hE] at e1 l1 ok ⊢
 simp! only [z3M,f1,t1,e2,e1]
 refine y3D (I:=fun s=>∃ o3,s=[some (.sh (z0r T)),some (.sh (.int (a : Int))),some (.sh (.lst (E.map thD))),o3]∧∀ y∈E,crP T m y=false) ?_ ?_
 ·refine z1r (enc:=thD) (fun pre s=>∃ o3,s=[some (.sh (z0r T)),some (.sh (.int (a : Int))),some (.sh (.lst (E.map thD))),o3]∧∀ y∈pre,crP T m y=false) ⟨_,rfl,fun y hy=>by cases hy⟩ ?_ ?_
  ·rintro pre c post e s ⟨o3,rfl,hp⟩
   have hc : c∈E:=by rw [e]; simp
   have st:=st_cr A hm (ok c hc)
   cases h : crP T m c with
   | true=>
    rw [h] at st
    rw [y0q e hp h]
    simp! only [st,z0d]
    exact .inr trivial
   | false=>
    rw [h] at st
    simp! only [st,z0d]
    refine ⟨_,rfl,fun y hy=>?_⟩
    rcases ay.mp hy with z | z
    ·exact hp y z
    ·rw [ai.mp z]; exact h
  ·rintro s ⟨o3,rfl,hp⟩
   exact .inl ⟨_,rfl,_,rfl,hp⟩
 ·rintro s ⟨o3,rfl,hp⟩
  have hfn : E.find? (crP T m)=none:=eU.mpr fun y hy=>by rw [hp y hy]; exact ax
  rw [hfn]
  have cx : z2a (some (E.map thD)) (z3a z5p (mkT (z0o [z0c 4,d2 ixD (z0k z2w [z0c 0,z0c 4]) (dC (.int 0))])) [some (z0r T),some (.int (a : Int)),some (.lst (E.map thD)),shO o3])=some (E.map (bpD T m)):=by
   rw [z4Z (by rw [aq]; omega)]
   refine z6e (bpD T m) fun c hc=>?_
   have h1:=(ok c hc).len
   have bt:=z8e A.sq (by omega) (th:=c) (by omega) (ok c hc).lt
   have hne : btL T m c≠[]:=fun z=>by
    have:=hp c hc
    unfold crP at this
    rw [z] at this
    simp at this
   have i0 : ixD (thD (btL T m c)) (.int 0)=some (nD ((btL T m c).headD 0)):=by
    cases hb : btL T m c with
    | nil=>exact absurd hb hne
    | cons x w=>exact z1q (j:=0) rfl
   simp! only [bt,i0]
   rfl
  simp! only [cx,z0d]
theorem any_cr {m : Nat} {T : List (List Bool)} (A : Ant m T) (hm : m≤8) {a : Nat} (ha : a < m) : (y0C T m a).any (crP T m)=crB T m a:=by
 have h:=cr_end A ha (show m < 12 by omega)
 have e : ((z5K T 12 [a] (btN T m a)).any fun e=>z5u T e && crP T m e)=(y0C T m a).any (crP T m):=by
  show ((y0C T m a).any fun e=>z5u T e && crP T m e)=_
  rw [Bool.eq_iff_iff,bO,bO]
  constructor
  ·rintro ⟨c,hc,h⟩
   exact ⟨c,hc,(az.mp h).2⟩
  ·rintro ⟨c,hc,h⟩
   exact ⟨c,hc,az.mpr ⟨(z8A A ha hc).ch,h⟩⟩
 rw [← e,h]
inductive Pap (T : List (List Bool)) (m a : Nat) : Prop
 | chain (c : List Nat) : c∈y0C T m a->crP T m c=true->x0B T m a = .tup [.str "chain",thD c]->crB T m a=true->Pap T m a
 | beaten : (∀ c∈y0C T m a,crP T m c=false)->x0B T m a = .tup [.str "beaten",.lst ((y0C T m a).map (bpD T m))]->crB T m a=false->Pap T m a
theorem pap_of {m : Nat} {T : List (List Bool)} (A : Ant m T) (hm : m≤8) {a : Nat} (ha : a < m) : Pap T m a:=by
 have h:=any_cr A hm ha
 cases hf : (y0C T m a).find? (crP T m) with
 | some c=>
  have h1:=List.mem_of_find?_eq_some hf
  have h2:=List.find?_some hf
  refine .chain c h1 h2 (by unfold x0B; rw [hf]) ?_
  rw [← h]
  exact bO.mpr ⟨c,h1,h2⟩
 | none=>
  have h1:=eU.mp hf
  refine .beaten (fun c hc=>by have:=h1 c hc; simpa using this) (by unfold x0B; rw [hf]) ?_
  rw [← h,c9]
  exact h1
theorem hd_ix {m : Nat} {T : List (List Bool)} {a : Nat} {e : List Nat} (h : Ech m T a e) : ixD (thD e) (.int 0)=some (.int (a : Int)):=by
 obtain ⟨q,rfl⟩:=h.hd
 exact ix0
theorem Full.ant {m : Nat} {T : List (List Bool)} (F : Full m T) : Ant m T:=⟨F.sq,F.own,fun i hi j hj h=>by
 have hne : i≠j:=fun z=>by
  subst z
  rw [F.own i hi] at h
  cases h
 have:=F.two i hi j hj hne
 rw [h] at this
 cases e : at2 T j i with
 | false=>rfl
 | true=>rw [e] at this; cases this⟩
theorem z8c {T : List (List Bool)} : ∀ {c : List Nat},chB T c=true->z1S T c=c
 | [],_=>rfl
 | a :: r,h=>by
  have h:=az.mp (show (r.all (fun j=>at2 T a j) && chB T r)=true from h)
  have ih:=z8c h.2
  unfold z1S
  rw [ih,if_pos h.1]
theorem y0f {T : List (List Bool)} {c : List Nat} (hc : chB T c=true) : ∀ {o : List Nat},(∀ x∈o,∃ y∈c,at2 T x y=false)->z1S T (o ++ c)=c
 | [],_=>z8c hc
 | x :: o,h=>by
  have ih:=y0f hc (o:=o) fun y hy=>h y (af _ hy)
  obtain ⟨y,hy,e⟩:=h x ac
  rw [cI,z1S,ih,if_neg]
  intro z
  rw [aT.mp z y hy] at e
  cases e
def x0h (m : Nat) (c : List Nat) : List Nat:=(ah m).filter fun x=>!c.contains x
theorem y9m {m : Nat} {c : List Nat} (nd : c.Nodup) (lt : ∀ x∈c,x < m) : (x0h m c ++ c).Perm (ah m):=by
 refine (bN ?_ bZ).mpr fun x=>?_
 ·refine aW.mpr ⟨List.nodup_range.filter _,nd,fun x hx y hy e=>?_⟩
  subst e
  have:=(ak.mp hx).2
  rw [aC.mpr hy] at this
  cases this
 ·rw [ay,au]
  constructor
  ·rintro (h | h)
   ·exact au.mp (ak.mp h).1
   ·exact lt x h
  ·intro h
   by_cases hc : x∈c
   ·exact .inr hc
   ·refine .inl (ak.mpr ⟨au.mpr h,?_⟩)
    have : c.contains x=false:=by rw [← bp,aC]; exact hc
    rw [this]
    rfl
theorem chB_nd {m : Nat} {T : List (List Bool)} (own : ∀ i < m,at2 T i i=false) {c : List Nat} (hc : chB T c=true) (lt : ∀ x∈c,x < m) : c.Nodup:=(chB_iff.mp hc).imp_of_mem fun {x y} hx hy z=>fun e=>by
 subst e
 rw [own x (lt x hx)] at z
 cases z
theorem k_bb : eqD (.str "beaten") (.str "beaten")=some (.bl true):=z3f (by decide +kernel) (by decide +kernel) (by decide +kernel)
theorem k_cb : eqD (.str "chain") (.str "beaten")=some (.bl false):=z3f (by decide +kernel) (by decide +kernel) (by decide +kernel)
theorem k_oo : eqD (.str "order") (.str "order")=some (.bl true):=z3f (by decide +kernel) (by decide +kernel) (by decide +kernel)
theorem k_bo : eqD (.str "beaten") (.str "order")=some (.bl false):=z3f (by decide +kernel) (by decide +kernel) (by decide +kernel)
theorem y8I {m : Nat} {T : List (List Bool)} (A : Ant m T) (hm : m≤8) {a : Nat} (ha : a < m) {c : List Nat} (hc : c∈y0C T m a) (hp : x0B T m a = .tup [.str "chain",thD c]) : z2R [z0r T,.int (a : Int)]=some (.tup [.str "order",thD (x0h m c ++ c),thD c]):=by
 refine z0H rfl ?_
 have pe:=y2f A hm ha
 rw [hp] at pe
 have h:=z8A A ha hc
 have hl:=h.len
 have p0 : ixD (.tup [.str "chain",thD c]) (.int 0)=some (.str "chain"):=rfl
 have p1 : ixD (.tup [.str "chain",thD c]) (.int 1)=some (thD c):=rfl
 obtain ⟨pd,hpd⟩ : ∃ pd,pd=D.tup [.str "chain",thD c]:=⟨_,rfl⟩
 rw [← hpd] at p0 p1 pe
 have cx : ∀ d4 : Option D,z2a (some (z7n 0 m)) (z3a (z0F (d2 y4m (z0c 5) (z0c 3))) (z0c 5) [some (z0r T),some (.int (a : Int)),some pd,some (thD c),d4])=some ((x0h m c).map nD):=fun d4=>by
  rw [z4m]
  exact y1D (fun x=>!c.contains x) nD (by simp; omega) (fun x hx=>by simp! only [nD,z5d]) fun x _ _=>by simp! only []
 have tl : ∀ W : List Nat,D.lst (W.map nD)=thD W:=fun _=>rfl
 have ol : (x0h m c).length≤m:=by
  have:=bg (fun x=>!c.contains x) (ah m)
  rw [bE] at this
  exact this
 have ct:=z6j (a:=x0h m c) (b:=c) (by omega)
 simp! only [z4B,pe,p0,k_cb,p1,z3W,A.sq.1,z1t (show m≤1000000 by omega),cx,z2U,tl,ct,z0d]
theorem y6W {m : Nat} {T : List (List Bool)} (A : Ant m T) (hm : m≤8) {a : Nat} (ha : a < m) {Q : D} (hp : x0B T m a = .tup [.str "beaten",Q]) : z2R [z0r T,.int (a : Int)]=some (.tup [.str "beaten",Q]):=by
 refine z0H rfl ?_
 have pe:=y2f A hm ha
 rw [hp] at pe
 have p0 : ixD (.tup [.str "beaten",Q]) (.int 0)=some (.str "beaten"):=rfl
 obtain ⟨pd,hpd⟩ : ∃ pd,pd=D.tup [.str "beaten",Q]:=⟨_,rfl⟩
 rw [← hpd] at p0 pe ⊢
 simp! only [z4B,pe,p0,k_bb,z0d]
theorem y5R {T : List (List Bool)} {s x : Nat} {o : List Nat} : z1e T s (x :: o)=z1e T (if at2 T x s=true then x else s) o:=rfl
theorem y2j {m : Nat} {T : List (List Bool)} (F : Full m T) {r0 : List Nat} (hb : ∀ a∈r0,∀ b < m,b ∉ r0->at2 T a b=true) (lt : ∀ a∈r0,a < m) : ∀ {o : List Nat} {s : Nat},s < m->(∀ x∈o,x < m)->(s∈r0∨∃ x∈o,x∈r0)->z1e T s o∈r0
 | [],s,_,_,h=>h.elim id fun ⟨_,z,_⟩=>nomatch z
 | x :: o,s,hs,ho,h=>by
  have hx:=ho x ac
  rw [y5R]
  refine y2j F hb lt (by split <;> assumption) (fun y hy=>ho y (af _ hy)) ?_
  by_cases hsr : s∈r0
  ·refine .inl ?_
   split
   ·rename_i hxs
    by_cases hxr : x∈r0
    ·exact hxr
    ·exact (F.no hx hs hxs (hb s hsr x hx hxr)).elim
   ·exact hsr
  ·rcases h with h | ⟨y,hy,hyr⟩
   ·exact absurd h hsr
   ·rcases aj.mp hy with rfl | hy
    ·rw [if_pos (hb y hyr s hs hsr)]
     exact .inl hyr
    ·exact .inr ⟨y,hy,hyr⟩
theorem y5w {m : Nat} {T : List (List Bool)} (F : Full m T) {r0 : List Nat} {rest : List (List Nat)} (hr : rgL T m=r0 :: rest) : (∀ a∈r0,a < m)∧(∃ a,a∈r0)∧∀ a∈r0,∀ b < m,b ∉ r0->at2 T a b=true:=by
 have R:=z8k (T:=T) (m:=m)
 obtain ⟨a0,ha0,e0⟩:=(R.mem r0).mp (by rw [hr]; exact ac)
 have lt : ∀ a∈r0,a < m:=fun a ha=>by
  rw [e0] at ha
  exact au.mp (ak.mp ha).1
 refine ⟨lt,⟨a0,by rw [e0]; exact ak.mpr ⟨au.mpr ha0,by simp⟩⟩,fun a ha b hb hn=>?_⟩
 have hin : cls m (fun a=>(rcL T m a).length) b∈rgL T m:=(R.mem _).mpr ⟨b,hb,rfl⟩
 have hbb : b∈cls m (fun a=>(rcL T m a).length) b:=ak.mpr ⟨au.mpr hb,by simp⟩
 rw [hr] at hin
 rcases aj.mp hin with z | z
 ·exact absurd (by rw [← z]; exact hbb) hn
 ·have pw:=R.pw
  rw [hr] at pw
  have:=(aQ.mp pw).1 _ z
  exact z9N F (lt a ha) hb (this.2.2 a ha b hbb)
theorem y0j {T : List (List Bool)} {a : Nat} {q : List Nat} (h : wk T a q) {x0 : Nat} {o : List Nat} (e : (a :: q).reverse=x0 :: o) : z1e T x0 o=a:=by
 have pre : ∀ {p post : List Nat},o=p ++ post->z1e T x0 p=lsN x0 p:=by
  intro p
  induction hn : p.length generalizing p with
  | zero=>intro post _; rw [bR.mp hn]; rfl
  | succ n ih=>
   intro post eo
   have hne : p≠[]:=fun z=>by rw [z] at hn; cases hn
   obtain ⟨p',x,rfl⟩ : ∃ p' x,p=p' ++ [x]:=⟨p.dropLast,p.getLast hne,(dI hne).symm⟩
   have eo' : o=p' ++ x :: post:=by rw [eo]; simp
   have i:=ih (p:=p') (by simpa using hn) eo'
   rw [z7m,i,if_pos (wk_back h e eo'),y2B]
 rw [pre (post:=[]) (by simp),y9v e]
theorem y0r {T : List (List Bool)} {x : Nat} {r : List Nat} : z1S T (x :: r)=if ((z1S T r).all fun j=>at2 T x j)=true then x :: z1S T r else z1S T r:=rfl
theorem y1q {T : List (List Bool)} : ∀ {o : List Nat},chB T (z1S T o)=true
 | []=>rfl
 | x :: r=>by
  rw [y0r]
  split
  ·rename_i h
   rw [z5A,h,y1q]
   rfl
  ·exact y1q
theorem y0P {T : List (List Bool)} : ∀ {o : List Nat},∀ x∈o,at2 T x x=false->∃ y∈z1S T o,at2 T x y=false
 | z :: r,x,hx,own=>by
  rw [y0r]
  by_cases h : ((z1S T r).all fun j=>at2 T z j)=true
  ·rw [if_pos h]
   rcases aj.mp hx with rfl | hx
   ·exact ⟨x,ac,own⟩
   ·obtain ⟨y,hy,e⟩:=y0P x hx own
    exact ⟨y,af _ hy,e⟩
  ·rw [if_neg h]
   rcases aj.mp hx with rfl | hx
   ·rw [bp] at h
    obtain ⟨y,hy,e⟩:=List.all_eq_false.mp h
    exact ⟨y,hy,by simpa using e⟩
   ·exact y0P x hx own
def z9k (T : List (List Bool)) : List Nat->Nat
 | a :: r=>z1e T a r
 | []=>0
def kS (k : Nat) : Str:=if k=0 then "plain" else if k=1 then "ahead" else "rest"
def z8B (T : List (List Bool)) (k : Nat) (o : List Nat) : Nat:=if k=0 then z9k T o else if k=1 then (z1S T o).headD 0 else z9k T o.reverse
noncomputable def z8a (T : List (List Bool)) (m k a : Nat) : Bool:=if k=1 then crB T m a else ((rgL T m).headD []).contains a
section
variable {m : Nat} {T : List (List Bool)}
theorem y5F (F : Full m T) (hm : m≤900) (h0 : 0 < m) {o : List Nat} (hp : o.Perm (ah m)) {k : Nat} (hk : k < 3) : z1G [z0r T,.str (kS k),thD o]=some (.val (.int (z8B T k o : Nat)))∧z0W [z0r T,.str (kS k),thD o]=some (.int (z8B T k o : Nat)):=by
 have hlen:=z2r hp
 have hk : k=0∨k=1∨k=2:=by omega
 rcases hk with rfl | rfl | rfl
 ·cases o with
  | nil=>simp at hlen; omega
  | cons a r=>
   show z1G [z0r T,.str "plain",thD (a :: r)]=some (.val (.int ((z1e T a r : Nat) : Int)))∧z0W [z0r T,.str "plain",thD (a :: r)]=some (.int ((z1e T a r : Nat) : Int))
   refine ⟨z2e rfl ?_,z0H rfl ?_⟩
   ·simp! only [z5x,k_pp,y2Y F.sq (show m≤1000 by omega) hp,z0d]
   ·simp! only [z3q,k_pp,y8j F.sq (z4h hp),z0d]
 ·have hne : z1S T o≠[]:=by
   cases o with
   | nil=>simp at hlen; omega
   | cons a r=>exact (z7l (T:=T) (r:=r) (a:=a)).1
  show z1G [z0r T,.str "ahead",thD o]=some (.val (.int (((z1S T o).headD 0 : Nat) : Int)))∧z0W [z0r T,.str "ahead",thD o]=some (.int (((z1S T o).headD 0 : Nat) : Int))
  cases hc : z1S T o with
  | nil=>exact absurd hc hne
  | cons c r=>
   have b1:=y3F F.sq (by omega) h0 hp
   have b2:=y6B F.sq hm hp
   rw [hc] at b1 b2
   have ix : ixXO (some (.val (thD (c :: r)))) (some (.int 0))=some (.val (.int (c : Int))):=by
    show ((ixD (thD (c :: r)) (.int 0)).bind fun z=>if z.imm=true then some (XO.val z) else none)=_
    rw [ix0]
    rfl
   refine ⟨z2e rfl ?_,z0H rfl ?_⟩
   ·simp! only [z5x,k_ap,k_aa,b1,ix,List.headD_cons,z0d]
   ·simp! only [z3q,k_ap,k_aa,b2,ix0,List.headD_cons,z0d]
 ·have hr2 : o.reverse.Perm (ah m):=(c6 o).trans hp
  show z1G [z0r T,.str "rest",thD o]=some (.val (.int ((z9k T o.reverse : Nat) : Int)))∧z0W [z0r T,.str "rest",thD o]=some (.int ((z9k T o.reverse : Nat) : Int))
  cases hr : o.reverse with
  | nil=>rw [hr] at hr2; have:=z2r hr2; simp at this; omega
  | cons l q=>
   rw [hr] at hr2
   show z1G [z0r T,.str "rest",thD o]=some (.val (.int ((z1e T l q : Nat) : Int)))∧z0W [z0r T,.str "rest",thD o]=some (.int ((z1e T l q : Nat) : Int))
   have b1:=y2Y F.sq (show m≤1000 by omega) hr2
   have rv : y8e [thD o]=some ((l :: q).map nD):=by
    show some ((o.map nD).reverse)=_
    rw [← dm,hr]
   obtain ⟨w,hw⟩ : ∃ w,w=l :: q:=⟨_,rfl⟩
   have b2:=rest_eq F.sq hr (z4h hr2)
   rw [← hw] at b1 rv
   refine ⟨z2e rfl ?_,z0H rfl ?_⟩
   ·simp! only [z5x,k_rp,k_ra,k_rr,rv,z6l,b1,z0d]
   ·simp! only [z3q,k_rp,k_ra,b2,z0d]
theorem y0u (F : Full m T) (h0 : 0 < m) {o : List Nat} (hp : o.Perm (ah m)) : z9k T o < m∧((rgL T m).headD []).contains (z9k T o)=true:=by
 obtain ⟨r0,rest,hr⟩:=(z8k (T:=T) (m:=m)).cons h0
 obtain ⟨lt,⟨a0,ha0⟩,hb⟩:=y5w F hr
 have hlen:=z2r hp
 cases o with
 | nil=>simp at hlen; omega
 | cons a r=>
  have pl:=z4h hp
  have h:=y2j F hb lt (pl a ac) (fun x hx=>pl x (af _ hx)) (by
   have : a0∈a :: r:=hp.mem_iff.mpr (au.mpr (lt a0 ha0))
   rcases aj.mp this with z | z
   ·exact .inl (by rw [← z]; exact ha0)
   ·exact .inr ⟨a0,z,ha0⟩)
  refine ⟨lt _ h,?_⟩
  rw [hr]
  exact aC.mpr h
theorem had_of (F : Full m T) (h0 : 0 < m) {o : List Nat} (hp : o.Perm (ah m)) {k : Nat} (hk : k < 3) : z8B T k o < m∧z8a T m k (z8B T k o)=true:=by
 have hk : k=0∨k=1∨k=2:=by omega
 rcases hk with rfl | rfl | rfl
 ·exact y0u F h0 hp
 ·have hlen:=z2r hp
  have hne : z1S T o≠[]:=by
   cases o with
   | nil=>simp at hlen; omega
   | cons a r=>exact (z7l (T:=T) (r:=r) (a:=a)).1
  show (z1S T o).headD 0 < m∧crB T m ((z1S T o).headD 0)=true
  have ch:=y1q (T:=T) (o:=o)
  have lt : ∀ x∈z1S T o,x < m:=fun x hx=>z4h hp x (chBk_sub.subset hx)
  have st : ∀ x < m,∃ y∈z1S T o,at2 T x y=false:=fun x hx=>y0P x (hp.mem_iff.mpr (au.mpr hx)) (F.own x hx)
  cases hc : z1S T o with
  | nil=>exact absurd hc hne
  | cons c r=>
   rw [hc] at ch lt st
   refine ⟨lt c ac,?_⟩
   unfold crB
   rw [bO]
   exact ⟨c :: r,x0N F.ant ch lt,bt_nil.mpr st⟩
 ·exact y0u F h0 ((c6 o).trans hp)
end
theorem k_so : eqD (.str "shut") (.str "order")=some (.bl false):=z3f (by decide +kernel) (by decide +kernel) (by decide +kernel)
theorem y2p {m : Nat} {T : List (List Bool)} (F : Full m T) (h0 : 0 < m) (hm : m≤8) {k : Nat} (hk : k < 3) {a : Nat} (ha : a < m) :
  ∃ (P : D) (x : Str) (e : D),z0j [z0r T,.str (kS k),.int (a : Int)]=some (.val P)∧ixD P (.int 0)=some (.str x)∧eqD (.str x) (.str "order")=some (.bl (z8a T m k a)) ∧
   (z8a T m k a=true->ixD P (.int 1)=some e∧isN e=false∧∃ o : List Nat,o.Perm (ah m)∧z8B T k o=a)∧(z8a T m k a=false->e = .non):=by
 obtain ⟨r0,rest,hr⟩:=(z8k (T:=T) (m:=m)).cons h0
 have hd0 : (rgL T m).headD []=r0:=by rw [hr]; rfl
 have hk : k=0∨k=1∨k=2:=by omega
 rcases hk with rfl | rfl | rfl
 ·show ∃ (P : D) (x : Str) (e : D),z0j [z0r T,.str "plain",.int (a : Int)]=some (.val P)∧ixD P (.int 0)=some (.str x)∧eqD (.str x) (.str "order")=some (.bl (((rgL T m).headD []).contains a))∧(((rgL T m).headD []).contains a=true->ixD P (.int 1)=some e∧isN e=false∧∃ o : List Nat,o.Perm (ah m)∧z9k T o=a)∧(((rgL T m).headD []).contains a=false->e = .non)
  rw [hd0]
  by_cases h : a∈r0
  ·have hc : r0.contains a=true:=aC.mpr h
   obtain ⟨q,e,w,p⟩:=y9s F (by omega) hr h
   rw [hc]
   refine ⟨.tup [.str "order",thD (a :: q).reverse], "order",thD (a :: q).reverse,z2e rfl ?_,rfl,k_oo,fun _=>⟨rfl,rfl,(a :: q).reverse,(c6 _).trans p,?_⟩,(fun z=>nomatch z)⟩
   ·simp! only [z1d,k_pp,e,z0d]
   ·cases hz : (a :: q).reverse with
    | nil=>simp at hz
    | cons x0 o=>exact y0j w hz
  ·have hc : r0.contains a=false:=by rw [← bp,aC]; exact h
   have e:=y7J F (by omega) hr h
   rw [hc]
   refine ⟨.tup [.str "shut",thD r0], "shut",.non,z2e rfl ?_,rfl,k_so,(fun z=>nomatch z),fun _=>rfl⟩
   simp! only [z1d,k_pp,e,z0d]
 ·show ∃ (P : D) (x : Str) (e : D),z0j [z0r T,.str "ahead",.int (a : Int)]=some (.val P)∧ixD P (.int 0)=some (.str x)∧eqD (.str x) (.str "order")=some (.bl (crB T m a))∧(crB T m a=true->ixD P (.int 1)=some e∧isN e=false∧∃ o : List Nat,o.Perm (ah m)∧(z1S T o).headD 0=a)∧(crB T m a=false->e = .non)
  have A:=F.ant
  cases pap_of A hm ha with
  | chain c hc hcr hp hcb=>
   have tc:=y8I A hm ha hc hp
   have h:=z8A A ha hc
   have ch:=(az.mp h.ch).2
   have pm:=y9m (chB_nd A.own ch h.lt) h.lt
   have ov : z1S T (x0h m c ++ c)=c:=y0f ch fun x hx=>bt_nil.mp hcr x (au.mp (ak.mp hx).1)
   rw [hcb]
   refine ⟨.tup [.str "order",thD (x0h m c ++ c),thD c], "order",thD (x0h m c ++ c),z2e rfl ?_,rfl,k_oo,fun _=>⟨rfl,rfl,_,pm,?_⟩,(fun z=>nomatch z)⟩
   ·simp! only [z1d,k_ap,k_aa,tc,z0d]
   ·rw [ov]
    have ix:=hd_ix h
    cases c with
    | nil=>cases ix
    | cons c0 r=>
     have ix : some (D.int (c0 : Int))=some (.int (a : Int)):=by rw [← ix]; exact (ix0 (c:=c0) (r:=r)).symm
     cases ix
     rfl
  | beaten hn hp hcb=>
   have tc:=y6W A hm ha hp
   rw [hcb]
   refine ⟨.tup [.str "beaten",.lst ((y0C T m a).map (bpD T m))], "beaten",.non,z2e rfl ?_,rfl,k_bo,(fun z=>nomatch z),fun _=>rfl⟩
   simp! only [z1d,k_ap,k_aa,tc,z0d]
 ·show ∃ (P : D) (x : Str) (e : D),z0j [z0r T,.str "rest",.int (a : Int)]=some (.val P)∧ixD P (.int 0)=some (.str x)∧eqD (.str x) (.str "order")=some (.bl (((rgL T m).headD []).contains a))∧(((rgL T m).headD []).contains a=true->ixD P (.int 1)=some e∧isN e=false∧∃ o : List Nat,o.Perm (ah m)∧z9k T o.reverse=a)∧(((rgL T m).headD []).contains a=false->e = .non)
  rw [hd0]
  by_cases h : a∈r0
  ·have hc : r0.contains a=true:=aC.mpr h
   obtain ⟨q,e,w,p⟩:=rest_in F (by omega) hr h
   rw [hc]
   refine ⟨.tup [.str "order",thD (a :: q)], "order",thD (a :: q),z2e rfl ?_,rfl,k_oo,fun _=>⟨rfl,rfl,a :: q,p,?_⟩,(fun z=>nomatch z)⟩
   ·simp! only [z1d,k_rp,k_ra,k_rr,e,z0d]
   ·cases hz : (a :: q).reverse with
    | nil=>simp at hz
    | cons x0 o=>exact y0j w hz
  ·have hc : r0.contains a=false:=by rw [← bp,aC]; exact h
   have e:=y8l F (by omega) hr h
   rw [hc]
   refine ⟨.tup [.str "shut",thD r0], "shut",.non,z2e rfl ?_,rfl,k_so,(fun z=>nomatch z),fun _=>rfl⟩
   simp! only [z1d,k_rp,k_ra,k_rr,e,z0d]
section
variable {g h : SS->Option Out} {s : SS} {o : Out}
theorem alt_l (e : g s=some o) : x0P g h s=some o:=by unfold x0P; rw [e]
theorem alt_r (e : g s=none) : x0P g h s=h s:=by unfold x0P; rw [e]
end
def y2X (x : Nat) (o : List Nat) : List (List Nat):=(ah (o.length + 1)).map fun k=>o.take k ++ [x] ++ o.drop k
def z4G : Nat->List (List Nat)
 | 0=>[[]]
 | n + 1=>(z4G n).flatMap (y2X n)
theorem z4u : ∀ {n : Nat} {o : List Nat},o∈z4G n->o.Perm (ah n)
 | 0,o,h=>by rw [ai.mp h]; exact .refl _
 | n + 1,o,h=>by
  obtain ⟨p,hp,h2⟩:=dl.mp h
  obtain ⟨k,_,rfl⟩:=aZ.mp h2
  have ih:=z4u hp
  rw [cg]
  have e : (p.take k ++ [n] ++ p.drop k).Perm (p ++ [n]):=by
   rw [aL]
   refine (List.perm_append_comm_assoc _ _ _).trans ?_
   rw [el]
   exact bK
  exact e.trans (ih.append_right _)
theorem y1t : ∀ {n : Nat} {o : List Nat},o.Perm (ah n)->o∈z4G n
 | 0,o,h=>by
  have : o=[]:=List.perm_nil.mp h
  rw [this]; exact ai.mpr rfl
 | n + 1,o,h=>by
  have hn : n∈o:=h.mem_iff.mpr (au.mpr (by omega))
  obtain ⟨l,r,rfl⟩:=cA hn
  have pm : (l ++ r).Perm (ah n):=by
   rw [cg] at h
   have h2 : (n :: (l ++ r)).Perm (n :: ah n):=List.perm_middle.symm.trans (h.trans bK)
   exact (List.perm_cons n).mp h2
  refine dl.mpr ⟨l ++ r,y1t pm,aZ.mpr ⟨l.length,au.mpr (by simp; omega),?_⟩⟩
  simp
theorem y6e {n : Nat} (h : n≤5) : (z4G n).length≤120:=by
 have : n=0∨n=1∨n=2∨n=3∨n=4∨n=5:=by omega
 rcases this with rfl | rfl | rfl | rfl | rfl | rfl <;> exact cO rfl
theorem y8Q {k : Nat} {L : List (List Nat)} (h : ∀ o∈L,o.length=k) : (L.flatMap (y2X k)).length=L.length * (k + 1):=by
 induction L with
 | nil=>simp
 | cons o r ih=>
  rw [List.flatMap_cons,aH,ih fun o ho=>h o (af _ ho),bb,eh]
  unfold y2X
  rw [aq,bE,h o ac]
  omega
theorem cut_dr {o : List Nat} {k : Nat} : y7K (some (thD o)) (some (some (k : Int))) (some none)=some ((o.drop k).map nD):=by
 show some (z8O (o.map nD) (some (k : Int)) none)=_
 rw [z9l,← cX]
theorem cut_tk {o : List Nat} {k : Nat} (h : k≤o.length) : y7K (some (thD o)) (some none) (some (some (k : Int)))=some ((o.take k).map nD):=by
 show some (z8O (o.map nD) none (some (k : Int)))=_
 rw [z6L (by rw [aq]; exact h),← cW]
theorem y4b {m : Nat} (hm : m≤5) : z1A [.int (m : Int)]=some (.lst ((z4G m).map thD)):=by
 refine z0H rfl ?_
 have n0 : D.lst [D.lst []] = .lst ((z4G 0).map thD):=rfl
 have fz : y7L 0 ([none,none,none] : SS)=[none,none,none]:=rfl
 simp! only [z3K,z3R,fz,n0,z1t (show m≤1000000 by omega)]
 refine z0E (I:=fun s=>∃ o2 o3 o4 o5,s=[some (.sh (.int (m : Int))),some (.sh (.lst ((z4G m).map thD))),o2,o3,o4,o5]) ?_ ?_
 ·refine z4Q (fun k s=>∃ o2 o3 o4 o5,s=[some (.sh (.int (m : Int))),some (.sh (.lst ((z4G k).map thD))),o2,o3,o4,o5]) ⟨_,_,_,_,rfl⟩ ?_ fun s z=>⟨s,rfl,z⟩
  rintro k hk s ⟨o2,o3,o4,o5,rfl⟩
  rw [bW]
  obtain ⟨L,hL⟩ : ∃ L,L=z4G k:=⟨_,rfl⟩
  have hlen : ∀ o∈L,o.length=k:=fun o ho=>by rw [hL] at ho; exact z2r (z4u ho)
  have hLl : L.length≤120:=by rw [hL]; exact y6e (by omega)
  have hs : z4G (k + 1)=L.flatMap (y2X k):=by rw [hL]; rfl
  rw [hs,← hL]
  have sq : y7k (.lst (L.map thD))=some (L.map thD):=rfl
  have e0 : D.lst [] = .lst (([] : List (List Nat)).map thD):=rfl
  simp! only [z3R,sq]
  rw [e0]
  refine z0E (I:=fun s=>∃ o4 o5,s=[some (.sh (.int (m : Int))),some (.sh (.lst (L.map thD))),some (.sh (.int (k : Int))),some (.ow (.lst ((L.flatMap (y2X k)).map thD))),o4,o5]) ?_ ?_
  ·refine z1r (enc:=thD) (fun pre s=>∃ o4 o5,s=[some (.sh (.int (m : Int))),some (.sh (.lst (L.map thD))),some (.sh (.int (k : Int))),some (.ow (.lst ((pre.flatMap (y2X k)).map thD))),o4,o5]) ⟨_,_,rfl⟩ ?_ fun s z=>⟨s,rfl,z⟩
   rintro pre o post e s ⟨o4,o5,rfl⟩
   have ol : o.length=k:=hlen o (by rw [e]; simp)
   have pl : (pre.flatMap (y2X k)).length=pre.length * (k + 1):=y8Q fun x hx=>hlen x (by rw [e]; simp [hx])
   have ple : pre.length≤120:=by
    have:=congrArg List.length e
    rw [aH] at this
    omega
   have pb : (pre.flatMap (y2X k)).length≤720:=by
    rw [pl]
    exact aJ (dP ple (show k + 1≤6 by omega)) (by omega)
   rw [eM]
   have e2 : (pre.flatMap (y2X k)) ++ [o].flatMap (y2X k)=(pre.flatMap (y2X k)) ++ (ah (o.length + 1)).map fun j=>o.take j ++ [k] ++ o.drop j:=by
    congr 1
    simp [y2X]
   rw [e2]
   obtain ⟨P,hP⟩ : ∃ P,P=pre.flatMap (y2X k):=⟨_,rfl⟩
   rw [← hP] at pb ⊢
   have ln : z3v [thD o]=some (.int (o.length : Int)):=z6m
   have rn : rng1 (some (.int ((o.length : Int) + 1)))=some (z7n 0 (o.length + 1)):=by
    have:=z1t (show o.length + 1≤1000000 by omega)
    exact this
   simp! only [ln,rn]
   refine z4Q (fun j s=>∃ o5,s=[some (.sh (.int (m : Int))),some (.sh (.lst (L.map thD))),some (.sh (.int (k : Int))),some (.ow (.lst ((P ++ (ah j).map fun j=>o.take j ++ [k] ++ o.drop j).map thD))),some (.sh (thD o)),o5]) ⟨o5,by simp⟩ ?_ fun s ⟨o5,z⟩=>⟨_,_,z⟩
   rintro j hj s ⟨o5,rfl⟩
   rw [bW]
   have c1:=cut_tk (o:=o) (k:=j) (by omega)
   have c2:=cut_dr (o:=o) (k:=j)
   have t1 : D.lst [.int (k : Int)]=thD [k]:=rfl
   have ct1:=z6j (a:=o.take j) (b:=[k]) (by simp; omega)
   have ct2:=z6j (a:=o.take j ++ [k]) (b:=o.drop j) (by simp; omega)
   have er : P ++ (ah (j + 1)).map (fun j=>o.take j ++ [k] ++ o.drop j)=(P ++ (ah j).map fun j=>o.take j ++ [k] ++ o.drop j) ++ [o.take j ++ [k] ++ o.drop j]:=by rw [cg,aP,← aL]; rfl
   rw [er]
   obtain ⟨G,hG⟩ : ∃ G,G=P ++ (ah j).map fun j=>o.take j ++ [k] ++ o.drop j:=⟨_,rfl⟩
   have gl : G.length≤1000000:=by rw [hG]; simp; omega
   rw [← hG]
   obtain ⟨W,hW⟩ : ∃ W,W=o.take j ++ [k] ++ o.drop j:=⟨_,rfl⟩
   obtain ⟨W1,hW1⟩ : ∃ W1,W1=o.take j ++ [k]:=⟨_,rfl⟩
   rw [← hW1] at ct1 ct2
   rw [← hW1] at hW
   rw [← hW] at ct2
   rw [← hW1,← hW]
   have ap:=y9h (enc:=thD) (xs:=G) (x:=W) gl
   have tl : ∀ W : List Nat,D.lst (W.map nD)=thD W:=fun _=>rfl
   simp! only [c1,c2,t1,tl,ct1,ct2,z2U,ap,z0d]
   exact ⟨_,rfl⟩
  ·rintro s ⟨o4,o5,rfl⟩
   obtain ⟨R,hR⟩ : ∃ R,R=(L.flatMap (y2X k)).map thD:=⟨_,rfl⟩
   rw [← hR]
   simp! only [z0d]
   exact ⟨_,_,_,_,rfl⟩
 ·rintro s ⟨o2,o3,o4,o5,rfl⟩
  simp! only [z0d]
section
variable {m : Nat} {T : List (List Bool)}
theorem y1z (F : Full m T) (h0 : 0 < m) (hm : m≤8) {k : Nat} (hk : k < 3) : ∃ E : Nat->D,z0B [z0r T,.str (kS k)]=some (.val (.lst ((ah m).map E)))∧∀ a < m,isN (E a) = !z8a T m k a:=by
 have each : ∀ a : Nat,∃ z : D × Str × D,a < m->(z0j [z0r T,.str (kS k),.int (a : Int)]=some (.val z.1)∧ixD z.1 (.int 0)=some (.str z.2.1)∧eqD (.str z.2.1) (.str "order")=some (.bl (z8a T m k a))∧(z8a T m k a=true->ixD z.1 (.int 1)=some z.2.2∧isN z.2.2=false)∧(z8a T m k a=false->z.2.2 = .non)):=fun a=>by
  by_cases ha : a < m
  ·obtain ⟨P,x,e,h1,h2,h3,h4,h5⟩:=y2p F h0 hm hk ha
   exact ⟨(P,x,e),fun _=>⟨h1,h2,h3,fun z=>⟨(h4 z).1,(h4 z).2.1⟩,h5⟩⟩
  ·exact ⟨(.non, "",.non),fun z=>absurd z ha⟩
 obtain ⟨f,hf⟩:=Classical.skolem.mp each
 refine ⟨fun a=>(f a).2.2,z2e rfl ?_,fun a ha=>?_⟩
 ·have c1 : z2a (some ((ah m).map nD)) (z3a z5p (z1g z0j [(z0c 0),(z0c 1),(z0c 3)]) [some (z0r T),some (.str (kS k)),none])=some ((ah m).map fun a=>(f a).1):=z7O (enc:=nD) (fun a=>(f a).1) (by simp; omega) fun a ha=>by
   have h1:=(hf a (au.mp ha)).1
   simp! only [nD,h1]
  have c2 : z2a (some ((ah m).map fun a=>(f a).1)) (z3a z5p (dIf (z0F (d2 eqD (d2 ixD (z0c 3) (dC (.int 0))) (dC (.str "order")))) (d2 ixD (z0c 3) (dC (.int 1))) (dC .non)) [some (z0r T),some (.str (kS k)),some (.lst ((ah m).map fun a=>(f a).1))])=some ((ah m).map fun a=>(f a).2.2):=z7O (enc:=fun a=>(f a).1) (fun a=>(f a).2.2) (by simp; omega) fun a ha=>by
   obtain ⟨_,h2,h3,h4,h5⟩:=hf a (au.mp ha)
   obtain ⟨L,hL⟩ : ∃ L,L=D.lst ((ah m).map fun a=>(f a).1):=⟨_,rfl⟩
   rw [← hL]
   cases hh : z8a T m k a with
   | true=>
    rw [hh] at h3
    simp! only [h2,h3,(h4 hh).1]
   | false=>
    rw [hh] at h3
    simp! only [h2,h3,h5 hh]
  have a1:=alt_l (h:=exc1 (z2G (z0k z3v [(z0c 0)])) (z1b z0j [(z0c 0),(z0c 1),(z0c 3)])) (s:=[some (.sh (z0r T)),some (.sh (.str (kS k))),none]) (g:=z5k 2 (mkL (z1U (z2G (z0k z3v [(z0c 0)])) z5p (z1g z0j [(z0c 0),(z0c 1),(z0c 3)])))) (o:=.nx [some (.sh (z0r T)),some (.sh (.str (kS k))),some (.sh (.lst ((ah m).map fun a=>(f a).1)))]) (by
   simp! only [show shO none=none from rfl,z3W,F.sq.1,z1t (show m≤1000000 by omega),z4m,c1])
  obtain ⟨P,hP⟩ : ∃ P,P=(ah m).map fun a=>(f a).1:=⟨_,rfl⟩
  rw [← hP] at a1 c2
  simp! only [z3B,a1,c2,z0d]
 ·obtain ⟨_,_,_,h4,h5⟩:=hf a ha
  cases hh : z8a T m k a with
  | true=>exact (h4 hh).2
  | false=>show isN (f a).2.2=true; rw [h5 hh]; rfl
theorem had_eq (F : Full m T) (h0 : 0 < m) (hm : m≤8) {k : Nat} (hk : k < 3) : z0O [z0r T,.str (kS k)]=some (.val (thD ((ah m).filter (z8a T m k)))):=by
 obtain ⟨E,e,hE⟩:=y1z F h0 hm hk
 refine z2e rfl ?_
 have cx : z2a (some (z0u 0 ((ah m).map E))) (two (z3T (y1A (z0c 3)) (z0c 2) [some (z0r T),some (.str (kS k))]))=some (((ah m).filter (z8a T m k)).map nD):=by
  rw [y5i (enc:=E) (xs:=ah m) (fun i _=>z8a T m k i) (fun i _=>nD i) (by simp; omega) (fun i h=>by
   have hi : i < m:=by simpa using h
   have:=hE i hi
   have e2 : (ah m)[i]'h=i:=by simp
   rw [e2]
   simp! only [this,Bool.not_not]) fun i h _=>by simp! only []; rfl]
  refine congrArg some ?_
  have : ∀ (l : List Nat) (n : Nat),(∀ i (h : i < l.length),l[i]=n + i)->((l.zipIdx n).filter fun z=>z8a T m k z.2).map (fun z=>nD z.2)=(l.filter (z8a T m k)).map nD:=by
   intro l
   induction l with
   | nil=>intro n _; rfl
   | cons x r ih=>
    intro n hx
    have h0' : x=n:=hx 0 (ef _)
    subst h0'
    rw [di,bA,bA]
    have i2:=ih (x + 1) fun i h=>by
     have:=hx (i + 1) (by simpa using h)
     simpa [Nat.add_assoc,Nat.add_comm 1 i] using this
    cases hh : z8a T m k x with
    | true=>simp only [hh,if_true,aM,i2]
    | false=>simp only [hh,cB,if_false,i2]
  exact this (ah m) 0 fun i h=>by simp
 have en : z9K (.lst ((ah m).map E))=some (z0u 0 ((ah m).map E)):=rfl
 obtain ⟨L,hL⟩ : ∃ L,L=(ah m).map E:=⟨_,rfl⟩
 rw [← hL] at e cx en
 have a1:=alt_l (h:=excO (z1b z0B [(z0c 0),(z0c 1)])) (s:=[some (.sh (z0r T)),some (.sh (.str (kS k)))]) (g:=z7u (z0C (z4j (z7F (z1g z0B [(z0c 0),(z0c 1)])) (y1A (z0c 3)) (z0c 2)))) (o:=.rt (thD ((ah m).filter (z8a T m k)))) (by
  simp! only [e,en,cx,z2U]
  rfl)
 simp! only [z3i,a1,z0d]
end
def kdB : SS->Option Out:=(z0J (z7z 6 (mkL (z1U (z5F (z0c 4)) z5p (z0k z0W [(z0c 2),(z0c 5),(z0c 10)])))) (z0J (z5k 7 (z1g z0O [(z0c 3),(z0c 5)])) (z0J (ifO (y7Q (z6p (z0I (dIs "list" (z0c 7)))) (z0F (d2 neD (z0c 7) (mkL (z1U (z2G (z0c 1)) (z0F (d2 inD (z0c 10) (z0c 6))) (z0c 10)))))) (z4k (dC (.bl false))) z1a) (z0J (z5j 8 (z5F (z0c 7)) (ifO (z6p (z0I (z0k z1L [(z0c 8)]))) (z4k (dC (.bl false))) z1a)) (ifO (y7Q (z0F (d2 neD (z1g z1G [(z0c 3),(z0c 5),(mkL (z1V z6n [(d2 ixD (z0c 4) (dC (.int 0)))]))]) (d2 ixD (z0c 6) (dC (.int 0))))) (z0F (d2 neD (z1g z1G [(z0c 3),(z0c 5),(mkL (z1V z6n [(d2 ixD (z0c 4) (d1 y8U (dC (.int 1))))]))]) (d2 ixD (z0c 6) (d1 y8U (dC (.int 1))))))) (z4k (dC (.bl false))) z1a)))))
def rsB : SS->Option Out:=z0J (z5k 2 (z0k z1M [(z0c 0),(z0c 1)])) (z0J (z5k 3 (z0k z2i [(z0c 2)])) (z0J (z5k 4 (z0k z1A [(z0c 1)])) (z0J (z5j 5 (z5F (mkL (z0o [(dC (.str "plain")),(dC (.str "ahead")),(dC (.str "rest"))]))) kdB) (z0J (z9g 9 (d2 ixD (mkL (z0o [(dC (.str "")),(dC (.str "Plain")),(dC (.str "aheads")),(dC (.str "rest ")),(dC (.str "left")),(dC (.str "chair"))])) (d2 z6i (z0k z0p [(z0c 0),(dC (.int 2))]) (dC (.int 6))))) (z4k (y7O (z0k z1h [(z0c 3),(z0c 9)]) (d2 eqD (z0c 3) (z0c 2))))))))
theorem g_is : g_law=z0J (z9g 1 (d2 y4n (dC (.int 1)) (d2 z6i (z0k z0p [(z0c 0),(dC (.int 0))]) (dC (.int 4))))) (z0J (ifO (z0F (d2 eqD (d2 z6i (d2 divI (z0k z0p [(z0c 0),(dC (.int 0))]) (dC (.int 4))) (dC (.int 3))) (dC (.int 1)))) (z9g 1 (dC (.int 5))) z1a) rsB):=rfl
theorem copy_eq {m : Nat} {T : List (List Bool)} (sq : Sq m T) (hm : m≤1000) : z2i [z0r T]=some (z0r T):=by
 refine z0H rfl ?_
 have hcp : z2a (y7k (z0r T)) (z3a z5p (z0C (z1V z6n [z0c 1])) [some (z0r T)])=some (T.map z4L):=by
  have hl : (T.map z4L).length≤1000000:=by rw [aq,sq.1]; omega
  rw [seq_tab,z4Z hl]
  exact z6e z4L fun r _=>y3q rfl
 simp! only [z4X,hcp,z0d]
 rfl
theorem y8y {x : Int} : z1L [.int x]=some (.bl true):=by
 refine z0H rfl ?_
 simp_all! only [z4g,z0d]
section
variable {m : Nat} {T : List (List Bool)}
theorem had_iff (F : Full m T) (h0 : 0 < m) (hm : m≤8) {k : Nat} (hk : k < 3) : (ah m).filter (fun a=>((z4G m).map (z8B T k)).contains a)=(ah m).filter (z8a T m k):=by
 refine cE fun a ha=>?_
 have ha:=au.mp ha
 cases hh : z8a T m k a with
 | true=>
  obtain ⟨_,_,_,_,_,_,h4,_⟩:=y2p F h0 hm hk ha
  obtain ⟨_,_,o,hp,e⟩:=h4 hh
  exact aC.mpr (aZ.mpr ⟨o,y1t hp,e⟩)
 | false=>
  rw [← bp,aC]
  intro z
  obtain ⟨o,ho,e⟩:=aZ.mp z
  have:=(had_of F h0 (z4u ho) hk).2
  rw [e,hh] at this
  cases this
theorem kind_eq (F : Full m T) (h0 : 0 < m) (hm : m≤5) {k : Nat} (hk : k < 3) {ns : List Int} {o6 o7 o8 o9 : Option SD} :
  hol (kdB [some (.sh (.scr ns)),some (.sh (.int (m : Int))),some (.sh (z0r T)),some (.sh (z0r T)),some (.sh (.lst ((z4G m).map thD))),some (.sh (.str (kS k))),o6,o7,o8,o9]) fun o=>∃ s,o = .nx s∧∃ o5 o6 o7 o8 o9 : Option SD,s=[some (.sh (.scr ns)),some (.sh (.int (m : Int))),some (.sh (z0r T)),some (.sh (z0r T)),some (.sh (.lst ((z4G m).map thD))),o5,o6,o7,o8,o9]:=by
 have ol:=y6e hm
 have hE:=had_iff F h0 (by omega) hk
 have hc:=had_eq F h0 (by omega) hk
 have rg : ah m∈z4G m:=y1t (List.Perm.refl _)
 have hne : z4G m≠[]:=fun z=>by rw [z] at rg; cases rg
 have cl : ∀ (x6 x7 x8 x9 : Option D),z2a (some ((z4G m).map thD)) (z3a z5p (z0k z0W [(z0c 2),(z0c 5),(z0c 10)]) [some (.scr ns),some (.int (m : Int)),some (z0r T),some (z0r T),some (.lst ((z4G m).map thD)),some (.str (kS k)),x6,x7,x8,x9])=some (((z4G m).map (z8B T k)).map nD):=fun x6 x7 x8 x9=>by
  have em : ((z4G m).map (z8B T k)).map nD=(z4G m).map fun o=>D.int ((z8B T k o : Nat) : Int):=by rw [bq]; rfl
  rw [em]
  refine z7O (enc:=thD) (fun o=>.int ((z8B T k o : Nat) : Int)) (by omega) fun o ho=>?_
  have:=(y5F F (by omega) h0 (z4u ho) hk).2
  obtain ⟨L,hL⟩ : ∃ L,L=D.lst ((z4G m).map thD):=⟨_,rfl⟩
  rw [← hL]
  simp! only [this]
 obtain ⟨o0,r0,e0⟩ : ∃ o0 r0,z4G m=o0 :: r0:=by
  cases hz : z4G m with
  | nil=>exact absurd hz hne
  | cons a b=>exact ⟨a,b,rfl⟩
 obtain ⟨i1,l1,e1⟩ : ∃ i1 l1,z4G m=i1 ++ [l1]:=⟨(z4G m).dropLast,(z4G m).getLast hne,(dI hne).symm⟩
 have b0:=(y5F F (by omega) h0 (z4u (n:=m) (o:=o0) (by rw [e0]; exact ac)) hk).1
 have b1:=(y5F F (by omega) h0 (z4u (n:=m) (o:=l1) (by rw [e1]; simp)) hk).1
 have x0 : ixD (.lst ((z4G m).map thD)) (.int 0)=some (thD o0):=by rw [e0]; exact z1q (j:=0) rfl
 have x1 : ixD (.lst ((z4G m).map thD)) (.int (-1))=some (thD l1):=by rw [e1,aP]; exact y5T
 obtain ⟨E,hEd⟩ : ∃ E,E=(z4G m).map (z8B T k):=⟨_,rfl⟩
 rw [← hEd] at cl hE
 have y0 : ixD (thD E) (.int 0)=some (.int ((z8B T k o0 : Nat) : Int)):=by rw [hEd,e0]; exact z1q (j:=0) rfl
 have y1 : ixD (thD E) (.int (-1))=some (.int ((z8B T k l1 : Nat) : Int)):=by rw [hEd,e1,aP]; show atI ((i1.map (z8B T k) ++ [z8B T k l1]).map nD) (-1)=_; rw [aP]; exact y5T
 have l0 : z6n [thD o0]=some (o0.map nD):=rfl
 have l1' : z6n [thD l1]=some (l1.map nD):=rfl
 have ne0 : neD (.int ((z8B T k o0 : Nat) : Int)) (.int ((z8B T k o0 : Nat) : Int))=some (.bl false):=by rw [y3h]; simp
 have ne1 : neD (.int ((z8B T k l1 : Nat) : Int)) (.int ((z8B T k l1 : Nat) : Int))=some (.bl false):=by rw [y3h]; simp
 have sq : y7k (.lst ((z4G m).map thD))=some ((z4G m).map thD):=rfl
 obtain ⟨OO,hOO⟩ : ∃ OO,OO=D.lst ((z4G m).map thD):=⟨_,rfl⟩
 rw [← hOO] at cl x0 x1 sq ⊢
 obtain ⟨H,hH⟩ : ∃ H,H=(ah m).filter (z8a T m k):=⟨_,rfl⟩
 rw [← hH] at hc hE
 have ci : ∀ (x5 x7 x8 x9 : Option D),z2a (some ((ah m).map nD)) (z3a (z0F (d2 inD (z0c 10) (z0c 6))) (z0c 10) [some (.scr ns),some (.int (m : Int)),some (z0r T),some (z0r T),some OO,x5,some (thD E),x7,x8,x9])=some (H.map nD):=fun x5 x7 x8 x9=>by
  rw [y1D (enc:=nD) (fun a=>E.contains a) nD (by simp; omega) (fun a _=>by
   have:=y9H (a:=a) (th:=E)
   simp! only [nD,this]) fun a _ _=>by simp! only [],hE]
 have il : isF "list" (thD H)=true:=rfl
 have nh : neD (thD H) (thD H)=some (.bl false):=ne_self (x0U H)
 have tl : ∀ W : List Nat,D.lst (W.map nD)=thD W:=fun _=>rfl
 simp_all! only [kdB,sq,cl,tl,hc,il,z1t (show m≤1000000 by omega),z4m,ci,nh,z3d]
 refine z0E (I:=fun s=>∃ o8 : Option SD,s=[some (.sh (.scr ns)),some (.sh (.int (m : Int))),some (.sh (z0r T)),some (.sh (z0r T)),some (.sh OO),some (.sh (.str (kS k))),some (.ow (thD E)),some (.sh (thD H)),o8,o9]) ?_ ?_
 ·refine z1r (enc:=nD) (fun pre s=>∃ o8 : Option SD,s=[some (.sh (.scr ns)),some (.sh (.int (m : Int))),some (.sh (z0r T)),some (.sh (z0r T)),some (.sh OO),some (.sh (.str (kS k))),some (.ow (thD E)),some (.sh (thD H)),o8,o9]) ⟨_,rfl⟩ ?_ fun s z=>⟨s,rfl,z⟩
  rintro pre x post e s ⟨o8,rfl⟩
  simp_all! only [nD,y8y,z0d]
  exact ⟨_,rfl⟩
 ·rintro s ⟨o8,rfl⟩
  simp_all! only [x0,x1,l0,l1',tl,b0,b1,y0,y1,ne0,ne1,z0d]
  exact ⟨_,rfl,_,_,_,_,_,rfl⟩
end
def z6r : List Str:=["", "Plain", "aheads", "rest ", "left", "chair"]
theorem y3m {w : Str} (hw : w∈z6r) {d e : D} : z0j [d,.str w,e]=some (.exc 3):=by
 have hw : w = "" ∨ w = "Plain" ∨ w = "aheads" ∨ w = "rest " ∨ w = "left" ∨ w = "chair" := by simpa [z6r] using hw
 have h1 : eqD (.str w) (.str "plain")=some (.bl false):=by rcases hw with rfl | rfl | rfl | rfl | rfl | rfl <;> exact z3f (by decide +kernel) (by decide +kernel) (by decide +kernel)
 have h2 : eqD (.str w) (.str "ahead")=some (.bl false):=by rcases hw with rfl | rfl | rfl | rfl | rfl | rfl <;> exact z3f (by decide +kernel) (by decide +kernel) (by decide +kernel)
 have h3 : eqD (.str w) (.str "rest")=some (.bl false):=by rcases hw with rfl | rfl | rfl | rfl | rfl | rfl <;> exact z3f (by decide +kernel) (by decide +kernel) (by decide +kernel)
 refine y0X rfl ?_
 simp! only [z1d,h1,h2,h3,z0d]
 exact ⟨_,rfl⟩
section
variable {m : Nat} {T : List (List Bool)} {w : Str}
theorem y5m (sq : Sq m T) (h0 : 0 < m) (hm : m≤8) (hw : w∈z6r) : z0B [z0r T,.str w]=some (.exc 3):=by
 refine y0X rfl ?_
 obtain ⟨n,rfl⟩ : ∃ n,m=n + 1:=⟨m - 1,by omega⟩
 obtain ⟨r,er⟩ : ∃ r,(ah (n + 1)).map nD=nD 0 :: r:=⟨_,by rw [List.range_succ_eq_map,aM]⟩
 have hl : (nD 0 :: r).length≤1000000:=by rw [← er]; simp; omega
 have c1 : z2a (some (nD 0 :: r)) (z3a z5p (z1g z0j [(z0c 0),(z0c 1),(z0c 3)]) [some (z0r T),some (.str w),none])=none:=by
  rw [z4Z hl]
  have e1 : z3a z5p (z1g z0j [(z0c 0),(z0c 1),(z0c 3)]) [some (z0r T),some (.str w),none] (nD 0)=none:=by
   show (z5p _).bind _=_
   show ((z1g z0j [(z0c 0),(z0c 1),(z0c 3)]) ([some (z0r T),some (.str w),none] ++ [some (nD 0)])).map some=none
   have : z1g z0j [(z0c 0),(z0c 1),(z0c 3)] ([some (z0r T),some (.str w),none] ++ [some (nD 0)])=none:=by
    show valO (z0j [z0r T,.str w,nD 0])=none
    rw [y3m hw]
    rfl
   rw [this]
   rfl
  show (z3a z5p (z1g z0j [(z0c 0),(z0c 1),(z0c 3)]) [some (z0r T),some (.str w),none] (nD 0)).bind _=none
  rw [e1]
  rfl
 have a1:=alt_r (h:=exc1 (z2G (z0k z3v [(z0c 0)])) (z1b z0j [(z0c 0),(z0c 1),(z0c 3)])) (s:=[some (.sh (z0r T)),some (.sh (.str w)),none]) (g:=z5k 2 (mkL (z1U (z2G (z0k z3v [(z0c 0)])) z5p (z1g z0j [(z0c 0),(z0c 1),(z0c 3)])))) (by
  simp! only [show shO none=none from rfl,z3W,sq.1,z1t (show n + 1≤1000000 by omega),z4m,er,c1]
  rfl)
 have r1 : z2G (z0k z3v [(z0c 0)]) [some (z0r T),some (.str w),none]=some (nD 0 :: r):=by
  simp! only [z3W,sq.1,z1t (show n + 1≤1000000 by omega),z4m,er]
 have f1 : z1b z0j [(z0c 0),(z0c 1),(z0c 3)] [some (z0r T),some (.str w),none,some (nD 0)]=some (.exc 3):=by
  show z0j [z0r T,.str w,nD 0]=_
  exact y3m hw
 have x1 : exc1 (z2G (z0k z3v [(z0c 0)])) (z1b z0j [(z0c 0),(z0c 1),(z0c 3)]) [some (.sh (z0r T)),some (.sh (.str w)),none]=some (.ex 3 [some (.sh (z0r T)),some (.sh (.str w)),none]):=by
  unfold exc1
  show (z2G (z0k z3v [(z0c 0)]) [some (z0r T),some (.str w),none]).bind _=_
  rw [r1]
  show (z1b z0j [(z0c 0),(z0c 1),(z0c 3)] [some (z0r T),some (.str w),none,some (nD 0)]).bind _=_
  rw [f1]
  rfl
 rw [x1] at a1
 simp! only [z3B,a1,z0d]
 exact ⟨_,rfl⟩
theorem rt_no {f : D->Option (Option D)} : rtO (Option.map D.lst (z5H (z2a none f)))=none:=by
 have h : z2a none f=none:=by unfold z2a; rfl
 rw [h]
 rfl
theorem had_no (sq : Sq m T) (h0 : 0 < m) (hm : m≤8) (hw : w∈z6r) : z0O [z0r T,.str w]=some (.exc 3):=by
 refine y0X rfl ?_
 have e:=y5m sq h0 hm hw
 have vn : valO (some (.exc 3))=none:=rfl
 have a1:=alt_r (h:=excO (z1b z0B [(z0c 0),(z0c 1)])) (s:=[some (.sh (z0r T)),some (.sh (.str w))]) (g:=z7u (z0C (z4j (z7F (z1g z0B [(z0c 0),(z0c 1)])) (y1A (z0c 3)) (z0c 2)))) (by
  simp! only [e,vn]
  exact rt_no)
 have x1 : excO (z1b z0B [(z0c 0),(z0c 1)]) [some (.sh (z0r T)),some (.sh (.str w))]=some (.ex 3 [some (.sh (z0r T)),some (.sh (.str w))]):=by
  have f1 : z1b z0B [(z0c 0),(z0c 1)] [some (z0r T),some (.str w)]=some (.exc 3):=by
   simp! only [e]
  unfold excO
  show (z1b z0B [(z0c 0),(z0c 1)] [some (z0r T),some (.str w)]).bind _=_
  rw [f1]
  rfl
 rw [x1] at a1
 simp! only [z3i,a1,z0d]
 exact ⟨_,rfl⟩
theorem y3I (sq : Sq m T) (h0 : 0 < m) (hm : m≤8) (hw : w∈z6r) : z1h [z0r T,.str w]=some (.bl true):=by
 refine z0H rfl ?_
 have e:=had_no sq h0 hm hw
 have x1 : y7P ["Unknown"] ["BadOrder", "NotTop", "Unknown"] (.exc "Unknown")=some (.bl true):=rfl
 simp! only [z3k,e,x1,z0d]
end
theorem x0a {ns : List Int} (hns : ns.length≤63) {m : Nat} (h0 : 0 < m) (hm : m≤5) : hol (rsB [some (.sh (.scr ns)),some (.sh (.int (m : Int))),none,none,none,none,none,none,none,none]) fun o=>o = .rt (.bl true):=by
 obtain ⟨_,et,T,rfl,F⟩:=y8b ns hns m (by omega)
 have cp:=copy_eq F.sq (by omega)
 have lo:=y4b hm
 obtain ⟨c2,ec2⟩:=y1i ns 2
 have ec2 : z0p [.scr ns,.int 2]=some (.int c2):=ec2
 obtain ⟨j,ej,hj⟩:=y1g (x:=c2) (n:=6) (by omega)
 have mj : z6i (.int c2) (.int 6)=some (.int (j : Int)):=by rw [z4J (by omega)]; exact congrArg _ (congrArg _ ej)
 obtain ⟨w,hw,ew⟩ : ∃ w∈z6r,atI [D.str "",.str "Plain",.str "aheads",.str "rest ",.str "left",.str "chair"] (j : Int)=some (.str w):=by
  have hh : j=0∨j=1∨j=2∨j=3∨j=4∨j=5:=by omega
  rcases hh with rfl | rfl | rfl | rfl | rfl | rfl
  ·exact ⟨"",by simp [z6r],z1q (j:=0) rfl⟩
  ·exact ⟨"Plain",by simp [z6r],z1q (j:=1) rfl⟩
  ·exact ⟨"aheads",by simp [z6r],z1q (j:=2) rfl⟩
  ·exact ⟨"rest ",by simp [z6r],z1q (j:=3) rfl⟩
  ·exact ⟨"left",by simp [z6r],z1q (j:=4) rfl⟩
  ·exact ⟨"chair",by simp [z6r],z1q (j:=5) rfl⟩
 have un:=y3I F.sq h0 (show m≤8 by omega) hw
 have et2 : eqD (z0r T) (z0r T)=some (.bl true):=L2.eq_self (okP_tab T)
 have ks : [D.str "plain",.str "ahead",.str "rest"]=[0,1,2].map fun k=>D.str (kS k):=rfl
 obtain ⟨OO,hOO⟩ : ∃ OO,OO=D.lst ((z4G m).map thD):=⟨_,rfl⟩
 have ke:=fun {k : Nat} (hk : k < 3) {o6 o7 o8 o9 : Option SD}=>kind_eq F h0 hm hk (ns:=ns) (o6:=o6) (o7:=o7) (o8:=o8) (o9:=o9)
 rw [← hOO] at lo ke
 have lp : hol (z9i 5 kdB [.str "plain",.str "ahead",.str "rest"] [some (.sh (.scr ns)),some (.sh (.int (m : Int))),some (.sh (z0r T)),some (.sh (z0r T)),some (.sh OO),none,none,none,none,none]) fun o=>∃ s,o = .nx s∧∃ o5 o6 o7 o8 o9 : Option SD,s=[some (.sh (.scr ns)),some (.sh (.int (m : Int))),some (.sh (z0r T)),some (.sh (z0r T)),some (.sh OO),o5,o6,o7,o8,o9]:=by
  rw [ks]
  refine z1r (enc:=fun k=>D.str (kS k)) (xs:=[0,1,2]) (fun pre s=>∃ o5 o6 o7 o8 o9 : Option SD,s=[some (.sh (.scr ns)),some (.sh (.int (m : Int))),some (.sh (z0r T)),some (.sh (z0r T)),some (.sh OO),o5,o6,o7,o8,o9]) ⟨_,_,_,_,_,rfl⟩ ?_ fun s z=>⟨s,rfl,z⟩
  rintro pre k post e s ⟨o5,o6,o7,o8,o9,rfl⟩
  have hk : k < 3:=by
   have : k∈[0,1,2]:=by rw [e]; simp
   simp at this
   omega
  obtain ⟨o,eo,s',rfl,p5,p6,p7,p8,p9,rfl⟩:=ke hk (o6:=o6) (o7:=o7) (o8:=o8) (o9:=o9)
  simp! only [eo,z0d]
  exact ⟨_,_,_,_,_,rfl⟩
 obtain ⟨o,eo,s,rfl,o5,o6,o7,o8,o9,rfl⟩:=lp
 simp_all! only [rsB,et,cp,lo,eo,ec2,mj,ew,un,et2,z0d]
theorem law_true (ns : List Int) (hns : ns.length≤63) : y4j [.scr ns]=some (.bl true):=by
 refine z0H rfl ?_
 rw [g_is]
 obtain ⟨c0,ec⟩:=y1i ns 0
 have ec : z0p [.scr ns,.int 0]=some (.int c0):=ec
 obtain ⟨m4,e4,h4⟩:=y1g (x:=c0) (n:=4) (by omega)
 have mm : z6i (.int c0) (.int 4)=some (.int (m4 : Int)):=by rw [z4J (by omega)]; exact congrArg _ (congrArg _ e4)
 have v4 : divI (.int c0) (.int 4)=some (.int (c0 / 4)):=y9U ⟨by omega,by omega⟩
 have m3 : z6i (.int (c0 / 4)) (.int 3)=some (.int (c0 / 4 % 3)):=z4J (by omega)
 have ad : y4n (.int 1) (.int (m4 : Int))=some (.int ((1 + m4 : Nat) : Int)):=by rw [y5C]; congr 2
 cases hd : decide (c0 / 4 % 3=1) with
 | true=>
  obtain ⟨o,eo,rfl⟩:=x0a hns (m:=5) (by omega) (by omega)
  have eo : rsB [some (.sh (.scr ns)),some (.sh (.int 5)),none,none,none,none,none,none,none,none]=some (.rt (.bl true)):=eo
  simp! only [ec,mm,ad,v4,m3,hd,eo,z0d]
 | false=>
  obtain ⟨o,eo,rfl⟩:=x0a hns (m:=1 + m4) (by omega) (by omega)
  simp! only [ec,mm,ad,v4,m3,hd,eo,z0d]
end Prg
open PySem PySem.W PyProof.Rows
set_option maxRecDepth 100000 in
set_option maxHeartbeats 0 in
theorem PySem.Challenge.cw_askorder_k45_whole_all_orders_holds : PySem.Challenge.rw_askorder_k45_whole_all_orders.Holds := by
 w_on; o_law; k_head; (case hw=>w_witness2)
 k_fill
 refine Prg.walk (l:=PySem.Challenge.rw_askorder_k45_whole_all_orders) rfl rfl Prg.law_true (fun w h Y=>PySem.W.kIn_of Y) ?F
 case F=>
  intro w mg fa h KX G hmg
  refine' Prg.all_mk KX G hmg ?a_beaten_by ?l_beaten_by ?c_beaten_by ?k_beaten_by ?a_beats_all ?l_beats_all ?c_beats_all ?k_beats_all ?a_places_true ?l_places_true ?c_places_true ?k_places_true ?a_is_thing ?l_is_thing ?c_is_thing ?k_is_thing ?a_tells_each_once ?l_tells_each_once ?c_tells_each_once ?k_tells_each_once ?a_order_asked ?l_order_asked ?c_order_asked ?k_order_asked ?a_winner ?l_winner ?c_winner ?k_winner ?a_last_standing ?l_last_standing ?c_last_standing ?k_last_standing ?a_chain_behind ?l_chain_behind ?c_chain_behind ?k_chain_behind ?a_is_chain ?l_is_chain ?c_is_chain ?k_is_chain ?a_beaters ?l_beaters ?c_beaters ?k_beaters ?a_stands ?l_stands ?c_stands ?k_stands ?a_crown_paper ?l_crown_paper ?c_crown_paper ?k_crown_paper ?a_ended_chains ?l_ended_chains ?c_ended_chains ?k_ended_chains ?a_reached ?l_reached ?c_reached ?k_reached ?a_steps_from ?l_steps_from ?c_steps_from ?k_steps_from ?a_rings ?l_rings ?c_rings ?k_rings ?a_places_with ?l_places_with ?c_places_with ?k_places_with ?a_top_ring ?l_top_ring ?c_top_ring ?k_top_ring ?a_row_from ?l_row_from ?c_row_from ?k_row_from ?a_begun_with ?l_begun_with ?c_begun_with ?k_begun_with ?a_round_of ?l_round_of ?c_round_of ?k_round_of ?a_widened ?l_widened ?c_widened ?k_widened ?a_detour ?l_detour ?c_detour ?k_detour ?a_to_stand ?l_to_stand ?c_to_stand ?k_to_stand ?a_to_crown ?l_to_crown ?c_to_crown ?k_to_crown ?a_to_rest ?l_to_rest ?c_to_rest ?k_to_rest ?a_brings ?l_brings ?c_brings ?k_brings ?a_paper_for ?l_paper_for ?c_paper_for ?k_paper_for ?a_orders_to ?l_orders_to ?c_orders_to ?k_orders_to ?a_can_be_had ?l_can_be_had ?c_can_be_had ?k_can_be_had ?a__law_cell_at ?l__law_cell_at ?c__law_cell_at ?k__law_cell_at ?a__law_whole ?l__law_whole ?c__law_whole ?k__law_whole ?a__law_table ?l__law_table ?c__law_table ?k__law_table ?a__law_copy ?l__law_copy ?c__law_copy ?k__law_copy ?a__law_stand ?l__law_stand ?c__law_stand ?k__law_stand ?a__law_chain ?l__law_chain ?c__law_chain ?k__law_chain ?a__law_rest ?l__law_rest ?c__law_rest ?k__law_rest ?a__law_led ?l__law_led ?c__law_led ?k__law_led ?a__law_orders ?l__law_orders ?c__law_orders ?k__law_orders ?a__law_unknown ?l__law_unknown ?c__law_unknown ?k__law_unknown ?a_law ?l_law ?c_law ?k_law ?x_AskError ?q_AskError ?x_BadOrder ?q_BadOrder ?x_NotTop ?q_NotTop ?x_Unknown ?q_Unknown ?e_BadOrder_AskError ?e_NotTop_AskError ?e_Unknown_AskError ?xb_AskError ?xb_BadOrder ?xb_NotTop ?xb_Unknown ?t_BadOrder_Unknown ?t_NotTop_Unknown ?t_Unknown_Unknown ?z_all ?z_enumerate ?z_int ?z_isinstance ?z_bool ?z_len ?z_reversed ?z_range ?z_sorted ?z_min ?z_list
  (case a_beaten_by=>k_is)
  (case l_beaten_by=>k_is)
  (case c_beaten_by=>k_is)
  (case k_beaten_by=>k_is)
  (case a_beats_all=>k_is)
  (case l_beats_all=>k_is)
  (case c_beats_all=>k_is)
  (case k_beats_all=>k_is)
  (case a_places_true=>k_is)
  (case l_places_true=>k_is)
  (case c_places_true=>k_is)
  (case k_places_true=>k_is)
  (case a_is_thing=>k_is)
  (case l_is_thing=>k_is)
  (case c_is_thing=>k_is)
  (case k_is_thing=>k_is)
  (case a_tells_each_once=>k_is)
  (case l_tells_each_once=>k_is)
  (case c_tells_each_once=>k_is)
  (case k_tells_each_once=>k_is)
  (case a_order_asked=>k_is)
  (case l_order_asked=>k_is)
  (case c_order_asked=>k_is)
  (case k_order_asked=>k_is)
  (case a_winner=>k_is)
  (case l_winner=>k_is)
  (case c_winner=>k_is)
  (case k_winner=>k_is)
  (case a_last_standing=>k_is)
  (case l_last_standing=>k_is)
  (case c_last_standing=>k_is)
  (case k_last_standing=>k_is)
  (case a_chain_behind=>k_is)
  (case l_chain_behind=>k_is)
  (case c_chain_behind=>k_is)
  (case k_chain_behind=>k_is)
  (case a_is_chain=>k_is)
  (case l_is_chain=>k_is)
  (case c_is_chain=>k_is)
  (case k_is_chain=>k_is)
  (case a_beaters=>k_is)
  (case l_beaters=>k_is)
  (case c_beaters=>k_is)
  (case k_beaters=>k_is)
  (case a_stands=>k_is)
  (case l_stands=>k_is)
  (case c_stands=>k_is)
  (case k_stands=>k_is)
  (case a_crown_paper=>k_is)
  (case l_crown_paper=>k_is)
  (case c_crown_paper=>k_is)
  (case k_crown_paper=>k_is)
  (case a_ended_chains=>k_is)
  (case l_ended_chains=>k_is)
  (case c_ended_chains=>k_is)
  (case k_ended_chains=>k_is)
  (case a_reached=>k_is)
  (case l_reached=>k_is)
  (case c_reached=>k_is)
  (case k_reached=>k_is)
  (case a_steps_from=>k_is)
  (case l_steps_from=>k_is)
  (case c_steps_from=>k_is)
  (case k_steps_from=>k_is)
  (case a_rings=>k_is)
  (case l_rings=>k_is)
  (case c_rings=>k_is)
  (case k_rings=>k_is)
  (case a_places_with=>k_is)
  (case l_places_with=>k_is)
  (case c_places_with=>k_is)
  (case k_places_with=>k_is)
  (case a_top_ring=>k_is)
  (case l_top_ring=>k_is)
  (case c_top_ring=>k_is)
  (case k_top_ring=>k_is)
  (case a_row_from=>k_is)
  (case l_row_from=>k_is)
  (case c_row_from=>k_is)
  (case k_row_from=>k_is)
  (case a_begun_with=>k_is)
  (case l_begun_with=>k_is)
  (case c_begun_with=>k_is)
  (case k_begun_with=>k_is)
  (case a_round_of=>k_is)
  (case l_round_of=>k_is)
  (case c_round_of=>k_is)
  (case k_round_of=>k_is)
  (case a_widened=>k_is)
  (case l_widened=>k_is)
  (case c_widened=>k_is)
  (case k_widened=>k_is)
  (case a_detour=>k_is)
  (case l_detour=>k_is)
  (case c_detour=>k_is)
  (case k_detour=>k_is)
  (case a_to_stand=>k_is)
  (case l_to_stand=>k_is)
  (case c_to_stand=>k_is)
  (case k_to_stand=>k_is)
  (case a_to_crown=>k_is)
  (case l_to_crown=>k_is)
  (case c_to_crown=>k_is)
  (case k_to_crown=>k_is)
  (case a_to_rest=>k_is)
  (case l_to_rest=>k_is)
  (case c_to_rest=>k_is)
  (case k_to_rest=>k_is)
  (case a_brings=>k_is)
  (case l_brings=>k_is)
  (case c_brings=>k_is)
  (case k_brings=>k_is)
  (case a_paper_for=>k_is)
  (case l_paper_for=>k_is)
  (case c_paper_for=>k_is)
  (case k_paper_for=>k_is)
  (case a_orders_to=>k_is)
  (case l_orders_to=>k_is)
  (case c_orders_to=>k_is)
  (case k_orders_to=>k_is)
  (case a_can_be_had=>k_is)
  (case l_can_be_had=>k_is)
  (case c_can_be_had=>k_is)
  (case k_can_be_had=>k_is)
  (case a__law_cell_at=>k_is)
  (case l__law_cell_at=>k_is)
  (case c__law_cell_at=>k_is)
  (case k__law_cell_at=>k_is)
  (case a__law_whole=>k_is)
  (case l__law_whole=>k_is)
  (case c__law_whole=>k_is)
  (case k__law_whole=>k_is)
  (case a__law_table=>k_is)
  (case l__law_table=>k_is)
  (case c__law_table=>k_is)
  (case k__law_table=>k_is)
  (case a__law_copy=>k_is)
  (case l__law_copy=>k_is)
  (case c__law_copy=>k_is)
  (case k__law_copy=>k_is)
  (case a__law_stand=>k_is)
  (case l__law_stand=>k_is)
  (case c__law_stand=>k_is)
  (case k__law_stand=>k_is)
  (case a__law_chain=>k_is)
  (case l__law_chain=>k_is)
  (case c__law_chain=>k_is)
  (case k__law_chain=>k_is)
  (case a__law_rest=>k_is)
  (case l__law_rest=>k_is)
  (case c__law_rest=>k_is)
  (case k__law_rest=>k_is)
  (case a__law_led=>k_is)
  (case l__law_led=>k_is)
  (case c__law_led=>k_is)
  (case k__law_led=>k_is)
  (case a__law_orders=>k_is)
  (case l__law_orders=>k_is)
  (case c__law_orders=>k_is)
  (case k__law_orders=>k_is)
  (case a__law_unknown=>k_is)
  (case l__law_unknown=>k_is)
  (case c__law_unknown=>k_is)
  (case k__law_unknown=>k_is)
  (case a_law=>k_is)
  (case l_law=>k_is)
  (case c_law=>k_is)
  (case k_law=>k_is)
  (case x_AskError=>k_is)
  (case q_AskError=>first | k_exc | kernel_rfl!)
  (case x_BadOrder=>k_is)
  (case q_BadOrder=>first | k_exc | kernel_rfl!)
  (case x_NotTop=>k_is)
  (case q_NotTop=>first | k_exc | kernel_rfl!)
  (case x_Unknown=>k_is)
  (case q_Unknown=>first | k_exc | kernel_rfl!)
  (case e_BadOrder_AskError=>first | kts_exm | k_is | kernel_rfl!)
  (case e_NotTop_AskError=>first | kts_exm | k_is | kernel_rfl!)
  (case e_Unknown_AskError=>first | kts_exm | k_is | kernel_rfl!)
  (case xb_AskError=>first | kts_exm | k_is | kernel_rfl!)
  (case xb_BadOrder=>first | kts_exm | k_is | kernel_rfl!)
  (case xb_NotTop=>first | kts_exm | k_is | kernel_rfl!)
  (case xb_Unknown=>first | kts_exm | k_is | kernel_rfl!)
  (case t_BadOrder_Unknown=>first | kts_exm | k_is | kernel_rfl!)
  (case t_NotTop_Unknown=>first | kts_exm | k_is | kernel_rfl!)
  (case t_Unknown_Unknown=>first | kts_exm | k_is | kernel_rfl!)
  (case z_all=>k_is)
  (case z_enumerate=>k_is)
  (case z_int=>k_is)
  (case z_isinstance=>k_is)
  (case z_bool=>k_is)
  (case z_len=>k_is)
  (case z_reversed=>k_is)
  (case z_range=>k_is)
  (case z_sorted=>k_is)
  (case z_min=>k_is)
  (case z_list=>k_is)
